import Derived.Test.YtjjggdcnpndgjaaGreatDoorHJ44
set_option linter.unusedSimpArgs false
set_option maxHeartbeats 16000000
set_option maxRecDepth 100000
namespace Go.Proofs.YtjjggdcnpndgjaaGreatDoor
open Go.RowKit Go.Shelf
variable {B B' gp:Nat}{E:List ze}{S:List IK}{T:zn}{b l:List Nat}{m:Mk}{rv v:Value}{w:World}
theorem TR {P:Program} (t ty e:TypeId) (i:TypeInfo) (ht:P.underlying t=some (.slice e)) (hi:P.info? e=some i) (ad:Option Addr) (n cap c:Nat) (hnc:n<=cap):
  (Builtin.append_ #[t,t] ty #[.slice ad n cap,.slice none 0 c]).run P w=.ok (.slice ad n cap) w:=by
 cases ad with
 |none=>simp[Builtin.append_,run_underlying ht,sizeOf,typeInfo,hi,Builtin.lenOf,Builtin.firstCells,loadCellsFrom,hnc]
 |some a=>simp[Builtin.append_,run_underlying ht,sizeOf,typeInfo,hi,Builtin.lenOf,Builtin.firstCells,loadCells,loadCellsFrom,hnc,storeCells]
theorem GQ {P:Program}{ops:Array Oper}{rest:List Oper}{o:Oper}{a:Act}{Q:Exit->Act->World->Prop} (hgd:o.guard=none) (s x:Operand) (t:TypeId)
  (ho:o.op=.call {callee:=.builtin .append,args:= #[s,x],argTypes:= #[t,t]})
  (base:Nat) (e:TypeId) (i:TypeInfo) (z:Value) (size bytes:Nat) (ht:P.underlying t=some (.slice e)) (hi:P.info? e=some i) (hz:i.zero=some z)
  (hsize:i.size=size) (hby:i.bytes=bytes) (hzs:z.cells.size=size) (hsz:0<size)
  (v:Value) (n:Nat) (xs:List Value) (hs:a.eval s=v) (hown:w.ownsRow base e size v n xs)
  (ado:Option Addr) (m c:Nat) (news:List Value) (hx:a.eval x=.slice ado m c) (hno:ado=none->m=0) (hl:news.length=m*size) (hnews:∀ad,ado=some ad->∀j u,news[j]?=some u->w.cell? (ad.add j)=some u) (h1:∀u∈news,u.oneCell'=true)
  (h63:n+m<=maxLen) (hbytes:(n+m)*bytes<=140737488355328) (hbase:base<=w.heap.size)
  (h:∀v' w',w'.ownsRow base e size v' (n+m) (xs++news)->w.grownBy w' v.ownBlock->wpList P ops Q rest (a.put o.dst v') w'):wpList P ops Q (o::rest) a w:=by
 cases ado with
 |some ad=>exact xR _ hgd s x t ho base e i z size bytes ht hi hz hsize hby hzs hsz v n xs hs hown ad m c news hx hl (hnews ad rfl) h1 h63 hbytes hbase (λv' w' h2 h3 _=>h v' w' h2 h3)
 |none=>
  obtain rfl:=hno rfl;obtain rfl:news=[]:=qy (by simpa using hl);have hnc:∃ad cap,v=.slice ad n cap/\n<=cap:=E7 hown;obtain⟨ad,cap,rfl,hnc⟩:=hnc;refine wpList_plain hgd λK hK=>?_
  have hr:=TR (P:=P) (w:=w) t o.type e i ht hi ad n cap c hnc;unfold Oper.wp execOp;simp only[ho,resolve,invoke,builtin,Sem.run_bind,Sem.run_pure,Result.andThen_ok,List.map_toArray,jv,ur,hs,hx,hr];exact hK _ _ (h _ _ (by rw[iq];exact hown) ⟨rfl,rfl,rfl,yF _,λ_ _ _=>rfl⟩)
def sU (N:NG) (row:List Nat) (e:ze):Prop:=(e.kind=1/\e.old=N.nT/\e.new<N.nT/\e.cost=N.put e.new)\/(e.kind=2/\row[e.loc]?=some e.old/\e.new=N.nT/\e.cost=N.drop e.old)\/(e.kind=3/\row[e.loc]?=some e.old/\e.new<N.nT/\e.cost=N.swp e.old e.new/\e.cost≠0)
theorem za.fit {N:NG}{row:List Nat}{i j:Nat}{c:Nat} (h:za N row i E j b c):∀e∈E,sU N row e:=by
 induction h with
 |done i=>intro e he;cases he
 |keep hx _ ih=>exact ih
 |put ht _ ih=>
  intro e he
  rcases bh.1 he with rfl |he
  ·exact .inl ⟨rfl,rfl,ht,rfl⟩
  ·exact ih e he
 |drop hx _ ih=>
  intro e he
  rcases bh.1 he with rfl |he
  ·exact .inr (.inl ⟨rfl,hx,rfl,rfl⟩)
  ·exact ih e he
 |swap hx hu hn hs _ ih=>
  intro e he
  rcases bh.1 he with rfl |he
  ·exact .inr (.inr ⟨rfl,hx,hu,rfl,hs⟩)
  ·exact ih e he
def wdM (m:Mk) (t:Nat):ByteArray:=if t=m.yP.length then ByteArray.empty else AA t
def vZ (w:World) (B:Nat) (v:Value) (m:Mk) (E:List ze):Prop:=∃ad cap,v=.slice ad E.length cap/\E.length<=cap/\(0<E.length->∃g,ad=some (af g 0)/\g<B/\∀(k:Nat) (e:ze),E[k]?=some e->w.cell? (af g (k*4))=some (ab e.loc)/\w.cell? (af g (k*4+1))=some (ab e.kind)/\w.cell? (af g (k*4+2))=some (.string (wdM m e.old))/\w.cell? (af g (k*4+3))=some (.string (wdM m e.new)))
def wW (w:World) (B:Nat) (v:Value) (E:List ze):Prop:=∃ad cap,v=.slice ad E.length cap/\E.length<=cap/\(0<E.length->∃g,ad=some (af g 0)/\g<B/\∀(k:Nat) (e:ze),E[k]?=some e->w.cell? (af g k)=some (ab e.cost))
theorem pE (g off n:Nat):((af g off):Addr).add n=(af g (off+n)):=by
 by_cases h:n=0 <;> simp[Addr.add,h]
theorem OY {V:World}{adl AD:Option Addr}{nl cpl here loc:Nat} (Ig:l.length=nl) (hc:nl<=cpl) (h1:here<=loc) (h2:loc<=nl) (hb:Below w.heap.size w V)
  (hlc:0<nl->∃g off,adl=some (af g off)/\g<w.heap.size/\∀(i:Nat) (x:ByteArray),(l.map AA)[i]?=some x->w.cell? (af g (off+i))=some (.string x))
  (Km:(if cpl=here then adl else adl.map λx=>x.add here)=AD):
  (AD=none->loc - here=0)/\((((l.drop here).take (loc - here)).map AA).map Value.string).length=(loc - here)*1/\(∀ad,AD=some ad->∀(j:Nat) u,((((l.drop here).take (loc - here)).map AA).map Value.string)[j]?=some u->V.cell? (ad.add j)=some u)/\∀u∈(((l.drop here).take (loc - here)).map AA).map Value.string,u.oneCell'=true:=by
 refine⟨λhn=>?_,?_,λad had j u hu=>?_,λu hu=>?_⟩
 ·by_cases h0:0<nl
  ·obtain⟨g,off,rfl,_⟩:=hlc h0
   rw[<-Km]at hn;split at hn <;> cases hn
  ·omega
 ·simp only[lM,nk,ku,Ig];omega
 ·have hlen:=(yS.1 hu).1
  simp only[lM,nk,ku,Ig]at hlen;obtain⟨g,off,rfl,hg,hcell⟩:=hlc (by omega);rw[au (by omega)]at Km;have e1:((af g off):Addr).add here=(af g (off+here)):=by simp[Addr.add]
  rw[ko,e1]at Km;rw[<-Km]at had;injection had with had
  subst had;have e2:((af g (off+here)):Addr).add j=(af g (off+(here+j))):=by simp[Addr.add,tu]
  rw[e2];rw[gM,gM,List.getElem?_take,aq (by omega),yH]at hu;cases ht:l[here+j]? with
  |none=>rw[ht]at hu;cases hu
  |some t=>
   rw[ht]at hu;injection hu with hu
   subst hu;exact(hb.cell Cx).trans (hcell (here+j) (AA t) (by rw[gM,ht];rfl))
 ·obtain⟨x,_,rfl⟩:=cj.1 hu
  rfl
structure Gc (m:Mk) (T:zn):Prop where
 N:T.N=zg m
 yL:T.yL=N0 m
 yN:T.yN=F8 m
 pg:T.pg=Jy m
theorem Gc.spl  (h:Gc m T) {p:Pt} (hp:EL m.yP.length m.rules.length p):IM T p=EQ p:=by
 cases p with
 |tok t=>
  show nth T.yL t=AA t;rw[h.yL,OE m hp]
 |yB n=>
  have hp:n<m.rules.length:=hp;show(T.pg.getD n _).1=BL n;rw[h.pg,zh,QT m (gE hp)];rfl
theorem o3  (hm:m.Good) {ps:List Pt} (h:zJ (F8 m) ps l S):(∀p∈ps,EL m.yP.length m.rules.length p)->∀nd∈S,EL m.yP.length m.rules.length nd.part:=by
 induction h with
 |nil=>intro _ nd hnd;cases hnd
 |tok _ ih=>
  intro hp nd hnd
  rcases bh.1 hnd with rfl |h1
  ·exact hp _ (eo ..)
  ·exact ih (λp h=>hp p (fj _ h)) nd h1
 |yB hk _ _ ih1 ih2=>
  intro hp nd hnd
  rcases bh.1 hnd with rfl |h1
  ·exact hp _ (eo ..)
  ·rcases gj.1 h1 with h2 |h2
   ·obtain⟨rs,h3,h4⟩:=LZ hk
    exact ih1 (hm.part rs (EI h3).2 _ (mG h4)) nd h2
   ·exact ih2 (λp h=>hp p (fj _ h)) nd h2
theorem pZ  (hm:m.Good):∀p∈ [Pt.yB 0],EL m.yP.length m.rules.length p:=λp hp=>by
 rw[mS.1 hp];exact hm.n1
theorem Gc.nds  (h:Gc m T) (hm:m.Good)  (hS:zJ (F8 m) [.yB 0] l S):S.map (MW T)=S.map Ou:=by
 apply lz;intro nd hnd;unfold MW Ou;rw[h.spl (o3 hm hS (pZ hm) nd hnd)]
theorem Gc.word  (h:Gc m T) (t:Nat) (ht:t<=m.yP.length):CV T.yL T.N.nT t=wdM m t:=by
 unfold CV wdM;have e:T.N.nT=m.yP.length:=by rw[h.N];rfl
 rw[e]
 by_cases h1:t=m.yP.length
 ·rw[aq h1,aq h1]
 ·rw[au h1,au h1,h.yL,OE m (by omega)]
theorem Gc.Dm  (h:Gc m T)  (hb:∀t∈b,t<m.yP.length):Qu T b=JD (b.map AA):=by
 unfold Qu JD;rw[pz];apply lz;intro t ht;have:=hb t ht;rw[h.word t (by omega)];unfold wdM;rw[au (by omega)];rfl
theorem cZ  (hm:m.Good)  (h:zP (zg m) [.yB 0] b):∀t∈b,t<m.yP.length:=
 λt ht=>kY (IU hm) h (λt h=>by simp at h) t ht
theorem tT  (h:Gc m T) {row:List Nat} (hrow:∀t∈row,t<m.yP.length) (hE:∀e∈E,sU (zg m) row e) (ho:w.ownsRow B 121 4 v E.length (E.flatMap (Lb T))) (hB:w.heap.size<=B'):vZ w B' v m E:=by
 obtain⟨ad,cap,e,hc⟩:=E7 ho;refine⟨ad,cap,e,hc,λh0=>?_⟩;obtain⟨g,cap',e2,_,hg2,_⟩:=AX ho h0;rw[e]at e2;injection e2 with e3 _ e4
 subst e3;subst e4;subst e;refine⟨g,rfl,by omega,λk ed hk=>?_⟩;have hk':=(yS.1 hk).1;have hf:∀a,(Lb T a).length=4:=λ_=>rfl
 have g0:=PZ (Lb T) hf E k ed 0 hk (by omega);have g1:=PZ (Lb T) hf E k ed 1 hk (by omega);have g2:=PZ (Lb T) hf E k ed 2 hk (by omega);have g3:=PZ (Lb T) hf E k ed 3 hk (by omega);have hle:ed.old<=m.yP.length/\ed.new<=m.yP.length:=by
  have hN:(zg m).nT=m.yP.length:=rfl
  rcases hE ed (mG hk)with⟨_,h1,h2,_⟩ | ⟨_,h1,h2,_⟩ | ⟨_,h1,h2,_⟩
  ·rw[hN]at h1 h2;omega
  ·have:=hrow _ (mG h1);rw[hN]at h2;omega
  ·have:=hrow _ (mG h1);rw[hN]at h2;omega
 refine⟨(ho.cellAt (k*4) (by omega)).trans g0,(ho.cellAt (k*4+1) (by omega)).trans g1,?_,?_⟩
 ·rw[<-h.word _ hle.1];exact(ho.cellAt (k*4+2) (by omega)).trans g2
 ·rw[<-h.word _ hle.2];exact(ho.cellAt (k*4+3) (by omega)).trans g3
theorem vC  (ho:D7 w B v (E.map (·.cost))) (hB:w.heap.size<=B'):wW w B' v E:=by
 have ho2:=ho;unfold D7 at ho;rw[lM]at ho;obtain⟨ad,cap,e,hc⟩:=E7 ho;refine⟨ad,cap,e,hc,λh0=>?_⟩;obtain⟨g,cap',e2,_,hg2,_⟩:=AX ho h0;rw[e]at e2;injection e2 with e3 _ e4
 subst e3;subst e4;subst e;refine⟨g,rfl,by omega,λk ed hk=>ho2.at (by rw[gM,hk];rfl)⟩
theorem X0 {l:List ByteArray} (h:DO w B v l) (hB:w.heap.size<=B'):Hf w B' v l:=by
 obtain⟨ad,cap,e,hc⟩:=E7 h;refine⟨ad,cap,e,hc,λh0=>?_⟩;obtain⟨g,cap',e2,_,hg2,_⟩:=AX h h0;rw[e]at e2;injection e2 with e3 _ e4
 subst e3;subst e4;subst e;refine⟨g,0,rfl,by omega,λi x hx=>?_⟩;have hi:=(yS.1 hx).1;rw[jl];refine(qd h i (by omega)).trans ?_;unfold JD;rw[gM,hx];rfl
theorem Gc.row  (h:Gc m T)  (hl:∀t∈l,t<m.yP.length):l.map (nth T.yL)=l.map AA:=by
 apply lz;intro t ht;rw[h.yL,OE m (hl t ht)]
theorem Gc.nT  (h:Gc m T):T.N.nT=m.yP.length:=by rw[h.N];rfl
theorem l9  (hm:m.Good)  (h:K3 T w gp) (hp:Gc m T) (hl:∀t∈l,t<m.yP.length) (hrow:Hf w w.heap.size rv (l.map AA)) (hn:l.length<=1000):
  Calls Tryz.prog 37 #[ac gp,rv] w λe w'=>Below w.heap.size w w'/\((40<l.length/\e=.returned (.tuple #[.slice none 0 0,ab 0,ab 10]))\/(l.length<=40/\
   ((∃S v,zJ (F8 m) [.yB 0] l S/\e=.returned (.tuple #[v,ab (-1),ab 0])/\w'.ownsRow w.heap.size 129 3 v S.length (BG (S.map Ou)))\/
    (∃i:Nat,M0 T l i/\(∀S,¬zJ (F8 m) [.yB 0] l S)/\e=.returned (.tuple #[.slice none 0 0,ab i,ab 0]))))):=by
 refine(lO h (by rw[hp.nT];exact hl) (by rw[hp.row hl];exact hrow) hn).mono ?_;rintro e w' ⟨hb,⟨h1,h2⟩ | ⟨h1,⟨S,v,h2,h3,h4⟩ | ⟨i,h2,h3⟩⟩⟩
 ·exact⟨hb,.inl ⟨h1,h2⟩⟩
 ·rw[hp.yN]at h2
  rw[hp.nds hm h2]at h4;exact⟨hb,.inr ⟨h1,.inl ⟨S,v,h2,h3,h4⟩⟩⟩
 ·refine⟨hb,.inr ⟨h1,.inr ⟨i,h2,λS hS=>bY h2 ?_,h3⟩⟩⟩
  have:=fQ (IX m) (LG hm) (hS.der (IX m)) [];rw[hp.yN];simpa using this
structure xE (m:Mk) (w:World) (B:Nat) (row:List Nat) (E:List ze) (b:List Nat) (c:Nat) (S:List IK) (ve vc vr vt:Value):Prop where
 run:za (zg m) row 0 E row.length b c
 tree:zJ (F8 m) [.yB 0] b S
 least:∀b' c',zP (zg m) [.yB 0] b'->Al (zg m) row b' c'->c<=c'
 ed:vZ w w.heap.size ve m E
 co:wW w w.heap.size vc E
 wd:DO w B vr (b.map AA)
 nd:w.ownsRow B 129 3 vt S.length (BG (S.map Ou))
 c9:c<=9000
theorem o1  (hm:m.Good)  (h:K3 T w gp) (hp:Gc m T) (hT:TabAt 1 Lib.deBruijn32tab w) (hl:∀t∈l,t<m.yP.length) (hrow:Hf w w.heap.size rv (l.map AA)) (hn:l.length<=1000):
  Calls Tryz.prog 22 #[ac gp,rv] w λe w'=>Below w.heap.size w w'/\((40<l.length/\e=.returned (.tuple #[.agg #[.slice none 0 0,.slice none 0 0,ab 0,.slice none 0 0,.slice none 0 0,.slice none 0 0],ab 10]))\/(l.length<=40/\
   ∃E b c S ve vc vr vt vx xs X,e=.returned (.tuple #[.agg #[ve,vc,ab (c:Nat),vr,vt,vx],ab 0])/\xE m w' w.heap.size l E b c S ve vc vr vt/\PF T w' w.heap.size l E b c S ve vc vr vt vx xs X)):=by
 have Bk:1<w.heap.size:=bq _ _ (hT 0 (by decide));refine(l8 h (λV hb=>TabAt.below hT hb Bk) (by rw[hp.nT];exact hl) (by rw[hp.row hl];exact hrow) hn (by rw[hp.N];exact uG hm) (λGb=>by rw[hp.N];exact XC hm l hl Gb)).mono ?_;rintro e w' ⟨hb,⟨h1,h2⟩ | ⟨h1,E,b,c,S,ve,vc,vr,vt,vx,xs,X,h2,hV⟩⟩
 ·exact⟨hb,.inl ⟨h1,h2⟩⟩
 ·have hrun:=hV.run
  have Jz:=hV.tree;have aeH:=hV.least;rw[hp.N]at hrun aeH;rw[hp.yN]at Jz;have hnd:=hV.nd;rw[hp.nds hm Jz]at hnd;have hbt:=cZ hm (Jz.der (IX m));have hwd:=hV.wd;rw[hp.Dm hbt]at hwd;refine⟨hb,.inr ⟨h1,E,b,c,S,ve,vc,vr,vt,vx,xs,X,h2,⟨hrun,Jz,aeH,tT hp hl hrun.fit hV.ed (yF _),vC hV.co (yF _),?_,hnd,?_⟩,hV⟩⟩
  ·unfold DO;rw[lM];exact hwd
  ·obtain⟨b',c',h3,h4,h5⟩:=XC hm l hl h1
   exact y5 (aeH b' c' h3 h4) h5
theorem mQ {w':World}{e sz n:Nat}{xs:List Value} (h:w.ownsRow B e sz v n xs) (hb:Below w.heap.size w w'):w'.ownsRow B e sz v n xs:=A7 h (A1.yX hb []) (by simp)
theorem vF {yN:Nat->Nat->Option (List Pt)} (hl:Tx yN) {ps:List Pt} (h:zJ yN ps l S):S.length<=2*l.length/\∀t rest,ps=.tok t::rest->S.length+1<=2*l.length:=by
 induction h with
 |nil=>exact⟨yF _,λt rest h=>by cases h⟩
 |tok _ ih=>exact⟨by simp only[lC];omega,λt rest _=>by simp only[lC];omega⟩
 |yB hk _ _ ih1 ih2=>
  obtain⟨rest,e⟩:=hl _ _ _ hk;have h1:=ih1.2 _ _ e;have h2:=ih2.1;exact⟨by simp only[lC,lA];omega,λt rest h=>by cases h⟩
def Has (m:Mk) (l:List Nat):Prop:=∃S,zJ (F8 m) [.yB 0] l S
structure sI (m:Mk) (l:List Nat) (c:Nat):Prop where
 least:∀b' c',zP (zg m) [.yB 0] b'->Al (zg m) l b' c'->c<=c'
 zero:c=0↔Has m l
theorem dA  (hm:m.Good)  (h:K3 T w gp) (hp:Gc m T) (hT:TabAt 1 Lib.deBruijn32tab w) (hl:∀t∈l,t<m.yP.length) (hrow:Hf w w.heap.size rv (l.map AA)) (hn:l.length<=40):
  Calls Tryz.prog 22 #[ac gp,rv] w λe w'=>(∃c a1 n1 k1 a2 n2 k2 a3 n3 k3 a4 n4 k4 a5 n5 k5,e=.returned (.tuple #[.agg #[.slice a1 n1 k1,.slice a2 n2 k2,ab (c:Nat),.slice a3 n3 k3,.slice a4 n4 k4,.slice a5 n5 k5],ab 0])/\sI m l c/\c<=9000)/\Below w.heap.size w w':=
 (o1 hm h hp hT hl hrow (by omega)).mono (by
  rintro e w' ⟨hb',⟨h,_⟩ | ⟨_,E,b',c,S2,ve,vc,vr,vt,vx,xs,X,h3,hM,hV⟩⟩
  ·omega
  ·obtain⟨a1,k1,rfl,_⟩:=hM.ed
   obtain⟨a2,k2,rfl,_⟩:=hM.co;obtain⟨a3,k3,rfl⟩:=BB hM.wd;obtain⟨a4,k4,rfl⟩:=BB hM.nd;obtain⟨a5,k5,rfl⟩:=BB hV.xr;refine⟨⟨c,a1,_,k1,a2,_,k2,a3,_,k3,a4,_,k4,a5,_,k5,h3,⟨hM.least,?_,?_⟩,hM.c9⟩,hb'⟩
   ·intro h0
    have h1:E=[]:=(hM.run.free (IU hm) hl).1 h0;have h2:b'=l:=by
     have:=hM.run.same (yF _) h1;rw[this,List.drop_zero,Nat.sub_zero,mj]
    subst h2;exact⟨S2,hM.tree⟩
   ·rintro⟨S,hS⟩
    exact Nat.le_zero.1 (hM.least l 0 (hS.der (IX m)) (Al.refl _ l)))
theorem eY  (h:zJ (F8 m) [.yB 0] l S):0<S.length:=by
 cases h with
 |yB _ _ _=>simp
theorem ZS  (hm:m.Good)  (h:K3 T w gp) (hp:Gc m T) (hl:∀t∈l,t<m.yP.length) (hrow:Hf w w.heap.size rv (l.map AA)) (hn:l.length<=40):
  Calls Tryz.prog 37 #[ac gp,rv] w λe w'=>(∃(n:Nat) (a:Option Addr) (k:Nat) (st:Int),e=.returned (.tuple #[.slice a n k,ab st,ab 0])/\(0<n↔Has m l))/\Below w.heap.size w w':=
 (l9 hm h hp hl hrow (by omega)).mono (by
  rintro e w' ⟨hb,⟨h,_⟩ | ⟨_,⟨S2,v,h2,h3,h4⟩ | ⟨i,_,h2,h3⟩⟩⟩
  ·omega
  ·obtain⟨a,k,rfl⟩:=BB h4
   exact⟨⟨_,a,k,_,h3,⟨λ_=>⟨S2,h2⟩,λ_=>eY h2⟩⟩,hb⟩
  ·exact⟨⟨0,none,0,i,h3,⟨λh=>absurd h (by omega),λ⟨S,hS⟩=>absurd hS (h2 S)⟩⟩,hb⟩)
theorem uV  (hm:m.Good)  (h:Has m l):0<l.length:=by
 obtain⟨S,hS⟩:=h;have h1:=vF (LG hm) hS;have h2:=eY hS;omega
theorem rG (v1 v2:Value) (zi zw:Int) (w:World) (hG:DT w) (hT:TabAt 1 Lib.deBruijn32tab w) (h1:KB w v1) (h2:KB w v2) (hzi:Ja zi) (hzw:Ja zw):
  Calls Tryz.prog 13 #[v1,v2,ab zi,ab zw] w λe w'=>e=.returned (.bool true)/\Below w.heap.size w w':=by
 obtain⟨iS,Ij,Ik,Il,Im⟩:=jc Tryz.infoG9;have Bk:1<w.heap.size:=bq _ _ (hT 0 (by decide));have HGl:Hid (∀W,Below w.heap.size w W->DT W/\TabAt 1 Lib.deBruijn32tab W):=hid λW hb=>⟨hG.below hb hG.size,TabAt.below hT hb Bk⟩
 have Er:Hid (∀W,Below w.heap.size w W->KB W v2):=hid λW hb=>h2.below hb
 have HZ:=hid (And.intro hzi hzw);have HB:=hid (mP v1 w h1);obtain⟨ad1,n1,ajE,rfl,_⟩:=h1;obtain⟨ad2,n2,cap2,rfl,_⟩:=h2;clear hG hT Bk hzi hzw
 go_enter Tryz.func13,Tryz.ntmps13
 go_upto_region 2 with(go_at_call 27;refine HB.out.mono ?_;rintro e w1 ⟨b,m,rfl,hg,hM,hb1⟩;have Mz:=hid hg;have HM:=hid hM;have yR:=hid hb1;clear hg hM hb1 HB)
 obtain⟨s,hs⟩:=qE (DB m);have HT1:Hid (Calls Tryz.prog 29 #[ac b] w1 λe w'=>e=.returned (.string s)/\Below w1.heap.size w1 w'):=hid (by rw[<-hs];exact pX m Mz.out w1 b HM.out);have HCo:Hid (∀V,Below w1.heap.size w1 V->Calls Tryz.prog 35 #[.string s] V λe w'=>∃(gp:Nat) (T:zn),e=.returned (.tuple #[ac gp,ab 0])/\K3 T w' gp/\Gc m T/\Below w1.heap.size w1 w'):=hid λV hb1=>by
  have hb:=yR.out.trans (hb1.mono yR.out.size);rw[<-hs];refine(ZK Mz.out V (HGl.out V hb).1 (HGl.out V hb).2).mono ?_;rintro e w' ⟨gp,T,h1,h2,h3,h4,h5,h6,h7⟩;exact⟨gp,T,h1,h2,⟨h3,h4,h5,h6⟩,hb1.trans (h7.mono hb1.size)⟩
 clear hs
 go_upto_region 5 with(first
  | (go_at_call 29;refine HT1.out.mono ?_;rintro e w2 ⟨rfl,hb2⟩;have yV:Hid (Below w1.heap.size w1 w2):=hid hb2;clear hb2 HT1)
  | (go_at_call 35;refine(HCo.out _ yV.out).mono ?_;rintro e w5 ⟨gp,T,rfl,hp,ht,yT⟩;have Xs:=hid (And.intro hp ht);have Co:Hid (Below w1.heap.size w1 w5):=hid yT;clear yT hp ht yV))
 have Gw:Hid (Below w.heap.size w w5):=hid (yR.out.trans (Co.out.mono yR.out.size));have HSe:=hid (cO Mz.out w5 b _ ((HM.out.below Co.out).up Co.out.size) (Er.out w5 Gw.out))
 go_upto_if 50 with(go_at_call 36;refine HSe.out.mono ?_;rintro e w6 ⟨l0,S0,rv,tv,rfl,hS,hl,hSl,Ai,htv,yZ⟩;obtain⟨arv,crv,akn⟩:=BB Ai;obtain⟨atv,ctv,ako⟩:=BB htv;subst akn;subst ako;rw[lM]at Ai;try rw[lM];have H6:=hid (And.intro hS (And.intro hl (And.intro Ai yZ)));clear hS hl hSl Ai htv yZ HSe)
 obtain⟨n0,hn0⟩:=qE (l0.length);rw[hn0]at H6
 try rw[hn0]
 have Wz:Hid (l0.length=n0):=hid hn0;clear hn0
 go_cut [12] (λs12 wx=>∃(l:List Nat) (n:Nat) (a:Option Addr) (k:Nat),s12=.slice a n k/\n<40/\Hid (l.length=n/\Has m l)/\Hid (DO wx w5.heap.size (.slice a n k) (l.map AA))/\Hid (Below w5.heap.size w5 wx))
 case first=>
  by_cases Gb:40<=n0
  ·have akp:(40:Int)<=(n0:Int):=by omega
   have Yg:=hid (o6 Mz.out w6 b ((HM.out.below (Co.out.trans (H6.out.2.2.2.mono Co.out.size))).up (Co.out.trans (H6.out.2.2.2.mono Co.out.size)).size))
   go_wp2_with (go_at_call 43;refine Yg.out.mono ?_;rintro e w7 ⟨l,S,rv,rfl,h71,h72,h73,h74⟩;obtain⟨a7,k7,h75⟩:=BB h73;subst h75;have H7:=hid (And.intro h71 (And.intro h72 (And.intro h73 h74)));clear h71 h72 h73 h74 Yg)
   go_meet
   refine⟨l,l.length,a7,k7,by simp,by have:=H7.out.2.1;omega,hid ⟨rfl,S,H7.out.1⟩,hid ?_,hid (H6.out.2.2.2.trans (H7.out.2.2.2.mono H6.out.2.2.2.size))⟩;have h1:=H7.out.2.2.1;rw[lM]at h1;exact DO.base h1 H6.out.2.2.2.size
  ·have akp:¬((40:Int)<=(n0:Int)):=by omega
   go_wp2
   go_meet
   exact⟨l0,n0,arv,crv,rfl,by omega,hid ⟨Wz.out,S0,H6.out.1⟩,hid H6.out.2.2.1,hid H6.out.2.2.2⟩
 case rest=>
  clear H6 Wz;obtain⟨l,n,ag,kg,rfl,al9,hl,hrow,y6⟩:=hcut;obtain⟨W7,rfl⟩:=qF (wc);have hpos:0<n:=by rw[<-hl.out.1];exact uV Mz.out hl.out.2
  obtain⟨g,kg',Nk,_,Bf,hkg⟩:=AX (show W7.ownsRow w5.heap.size 9 1 (.slice ag n kg) n (JD (l.map AA)) by have h1:=hrow.out;unfold DO at h1;rw[lM,hl.out.1]at h1;exact h1) hpos;injection Nk with Av hg2 hg3
  clear hg2;subst Av;subst hg3;have HPk:Hid (Calls Tryz.prog 44 #[ab zi,ab n] W7 λe w'=>(∃r:Nat,r<n/\e=.returned (ab r))/\W7=w'):=hid (G9 zi n hpos HZ.out.1 W7)
  go_upto_region 10 with(go_at_call 44;refine HPk.out.mono ?_;rintro e w' ⟨⟨i,hi,rfl⟩,rfl⟩)
  have Jn:w5.heap.size<=W7.heap.size:=y6.out.size;have hrw:=X0 hrow.out (yF _);obtain⟨_,_,akq,hkn,hlc⟩:=hrw;injection akq with hr1 hr2 hr3
  clear hr2;subst hr1;subst hr3;rw[lM,hl.out.1]at hlc;obtain⟨b0,hb0⟩:=qE (W7.heap.size);obtain⟨Te,Hg,Hh,Hi⟩:=OY (V:=W7) (here:=0) (loc:=i) (AD:=some (af g 0)) hl.out.1 hkg (bu _) (by omega) (ah _ _) hlc (by split <;> simp[Addr.add]);rw[Nat.sub_zero,List.drop_zero]at Hg Hh Hi;obtain⟨P1,hP1⟩:=qE (((l.take i).map AA).map Value.string);rw[hP1]at Hg Hh Hi;have Zk:=hid (And.intro Hg (And.intro Hh (And.intro Hi hP1)));have HLC:=hid hlc;clear Hg Hh Hi hP1 Te hlc;have hii:((i:Int)< (n:Int)):=by omega
  have hnk:((n:Int)<=(kg:Int)):=by omega
  go_wp2_with (at_builtin;refine GQ rfl _ _ 39 rfl b0 9 iS (.string ByteArray.empty) 1 16 Tryz.underlying39 Ij Ik Il Im rfl (by decide) _ _ _ rfl (je W7 b0 9 1) (some (af g 0)) i kg P1 rfl (λh=>by cases h) Zk.out.1 Zk.out.2.1 Zk.out.2.2.1 ?h63 ?hby ?hba ?_)
  case h63=>unfold maxLen;omega
  case hby=>omega
  case hba=>omega
  intro v10 Jp aeI ahh;obtain⟨a10,c10,rfl⟩:=BB aeI;have Qj:Hid (Below b0 W7 Jp):=hid ((ah b0 W7).grown ahh (by omega) (λj hj=>by cases hj));have H10:Hid (Jp.ownsRow b0 9 1 (.slice a10 i c10) i P1):=hid aeI;clear aeI ahh;obtain⟨i1,hi1⟩:=qE (i+1);obtain⟨AD,Km⟩:=qE ((if kg=i1 then some ((af g 0):Addr)else some (af g i1)));obtain⟨Te,Hg,Hh,Hi⟩:=OY (V:=Jp) (here:=i1) (loc:=n) (AD:=AD) hl.out.1 hkg (by omega) (yF _) (by rw[hb0];exact Qj.out) HLC.out (by rw[<-Km,ko,pE,jl]);obtain⟨P2,hP2⟩:=qE ((((l.drop i1).take (n - i1)).map AA).map Value.string);rw[hP2]at Hg Hh Hi;have Ng:=hid (And.intro Te (And.intro Hg (And.intro Hh (And.intro Hi hP2))));clear Te Hg Hh Hi hP2;have hiw:IntKind.i64.wrap ((i:Int)+1)=(i1:Int):=by rw[Cy];omega
  have akr:((i1:Int)<=(n:Int)):=by omega
  have ama:i1<=n:=by omega
  go_wp2_with (at_builtin;refine GQ rfl _ _ 39 rfl b0 9 iS (.string ByteArray.empty) 1 16 Tryz.underlying39 Ij Ik Il Im rfl (by decide) _ _ _ rfl H10.out AD (n - i1) (kg - i1) P2 rfl Ng.out.1 Ng.out.2.1 Ng.out.2.2.1 Ng.out.2.2.2.1 ?h63 ?hby ?hba ?_)
  case h63=>unfold maxLen;omega
  case hby=>omega
  case hba=>have:=Qj.out.size;omega
  intro v11 Ay acN ahi;obtain⟨a11,c11,rfl⟩:=BB acN;have abF:Hid (Below b0 W7 Ay):=hid (Qj.out.grown ahi (by have:=Qj.out.size;omega) (λj hj=>(H10.out.lt j hj).1));have HLs:Hid (DO Ay b0 (.slice a11 (i+(n - i1)) c11) ((l.take i++l.drop i1).map AA)):=hid (by
   have h1:=hl.out.1;have h2:(l.drop i1).take (n - i1)=l.drop i1:=jk (by rw[ku,h1];exact yF _);rw[<-Zk.out.2.2.2,<-Ng.out.2.2.2.2,h2]at acN;unfold DO JD;rw[ew,ew,lA,lM,lM,nk,ku,h1,xI (by omega)];exact acN)
  clear acN ahi Km;obtain⟨gR,cR,gP,cP,gD,cD,gS,cS,hC⟩:=mW HM.out;have HC:Hid (∀V,Below b0 W7 V->MkC V w1.heap.size b m gR cR gP cP gD cD gS cS):=hid λV hb=>hC V (Co.out.trans ((y6.out.trans (by rw[<-hb0]at hb;exact hb.mono Jn)).mono Co.out.size))
  clear hC;have m1:=(HC.out Ay abF.out).c1;have aks:=Mz.out.t2;have akt:=Mz.out.t6;obtain⟨nT,zo⟩:=qE (m.yP.length);rw[zo]at m1 aks akt;have HNT:Hid (m.yP.length=nT):=hid zo;have ahj:Hid (Calls Tryz.prog 44 #[ab zw,ab nT] Ay λe w'=>(∃r:Nat,r<nT/\e=.returned (ab r))/\Ay=w'):=hid (G9 zw nT (by omega) HZ.out.2 Ay);have Yg:Hid (∀t,t<nT->Calls Tryz.prog 31 #[ab t] Ay λe w'=>e=.returned (.string (AA t))/\Ay=w'):=hid λt ht=>I1 t (by omega) Ay
  clear zo
  go_upto_region 14 with(first
   | (go_at_call 44;refine ahj.out.mono ?_;rintro e w' ⟨⟨t,ht,rfl⟩,rfl⟩)
   | (go_at_call 31;refine(Yg.out _ ht).mono ?_;rintro e w' ⟨rfl,rfl⟩))
  clear m1 ahj Yg hiw akr;obtain⟨b1,hb1⟩:=qE (Ay.heap.size);have ahk:b0<=b1:=by have:=abF.out.size;omega
  obtain⟨Te,Hg,Hh,Hi⟩:=OY (V:=Ay) (here:=0) (loc:=i) (AD:=some (af g 0)) hl.out.1 hkg (bu _) (by omega) (by rw[hb0];exact abF.out) HLC.out (by split <;> simp[Addr.add]);rw[Nat.sub_zero,List.drop_zero]at Hg Hh Hi;rw[Zk.out.2.2.2]at Hg Hh Hi;have Gg:=hid (And.intro Hg (And.intro Hh Hi));clear Te Hg Hh Hi
  go_wp2_with (at_builtin;refine GQ rfl _ _ 39 rfl b1 9 iS (.string ByteArray.empty) 1 16 Tryz.underlying39 Ij Ik Il Im rfl (by decide) _ _ _ rfl (je Ay b1 9 1) (some (af g 0)) i kg P1 rfl (λh=>by cases h) Gg.out.1 Gg.out.2.1 Gg.out.2.2 ?h63 ?hby ?hba ?_)
  case h63=>unfold maxLen;omega
  case hby=>omega
  case hba=>omega
  intro v14 He aeJ ahl;obtain⟨a14,c14,rfl⟩:=BB aeJ;have aeK:Hid (Below b1 Ay He):=hid ((ah b1 Ay).grown ahl (by omega) (λj hj=>by cases hj));have H14:Hid (He.ownsRow b1 9 1 (.slice a14 i c14) i P1):=hid aeJ;clear aeJ ahl;have Vi:b1<=He.heap.size:=by have:=aeK.out.size;omega
  go_wp2_with (at_builtin;refine jq _ rfl _ _ 39 rfl b1 9 iS (.string ByteArray.empty) 1 16 Tryz.underlying39 Ij Ik Il Im rfl (by decide) _ _ _ rfl (H14.out.alloc _) (af He.heap.size 0) 1 1 [.string (AA t)] rfl rfl (dh (dw He _)) ?c2 (yF 1) ?c3 ?c4 ?c5 _ rfl ?_)
  case c2=>intro u hu;simp at hu;subst hu;rfl
  case c3=>unfold maxLen;omega
  case c4=>omega
  case c5=>simp;omega
  intro g15 aku W15 aeL ahm akv akw;have acO:Hid (Below b1 Ay W15):=hid ((aeK.out.alloc Vi (.cells #[.string (AA t)] 9)).grown ahm yM (λj hj=>(H14.out.lt j hj).1))
  try rw[hi1]at aeL
  have Oo:Hid (W15.ownsRow b1 9 1 (ae g15 i1 aku) i1 (P1++ [.string (AA t)])):=hid aeL;have aeM:b1<=W15.heap.size:=by have:=acO.out.size;omega
  clear aeL ahm akv akw;obtain⟨Te,Hg,Hh,Hi⟩:=OY (V:=W15) (here:=i) (loc:=n) (AD:=some (af g i)) hl.out.1 hkg (by omega) (yF _) (by rw[hb0];exact abF.out.trans (acO.out.mono ahk)) HLC.out (by rw[au (by omega),ko,pE,jl]);obtain⟨P4,hP4⟩:=qE ((((l.drop i).take (n - i)).map AA).map Value.string);rw[hP4]at Hg Hh Hi;have HP4:=hid (And.intro Te (And.intro Hg (And.intro Hh (And.intro Hi hP4))));clear Te Hg Hh Hi hP4;have hin:((i:Int)<=(n:Int)):=by omega
  have amb:i<=n:=by omega
  go_wp2_with (at_builtin;refine GQ rfl _ _ 39 rfl b1 9 iS (.string ByteArray.empty) 1 16 Tryz.underlying39 Ij Ik Il Im rfl (by decide) _ _ _ rfl Oo.out (some (af g i)) (n - i) (kg - i) P4 rfl HP4.out.1 HP4.out.2.1 HP4.out.2.2.1 HP4.out.2.2.2.1 ?h63 ?hby ?hba ?_)
  case h63=>unfold maxLen;omega
  case hby=>omega
  case hba=>exact aeM
  intro v16 Ca acP ahn;obtain⟨a16,c16,rfl⟩:=BB acP;have aho:Hid (Below b1 Ay Ca):=hid (acO.out.grown ahn aeM (λj hj=>(Oo.out.lt j hj).1));have HMr:Hid (DO Ca b1 (.slice a16 (i1+(n - i)) c16) ((l.take i++t::l.drop i).map AA)):=hid (by
   have h1:=hl.out.1;have h2:(l.drop i).take (n - i)=l.drop i:=jk (by rw[ku,h1];exact yF _);rw[<-Zk.out.2.2.2,<-HP4.out.2.2.2.2,h2]at acP;unfold DO JD;have e1:l.take i++t::l.drop i=(l.take i++ [t])++l.drop i:=by simp
   rw[e1,ew,ew,ew,ew];simp only[lA,lM,nk,ku,h1,ey];rw[xI (by omega),hi1,aA];exact acP)
  have aeN:Hid (DO Ca b0 (.slice a11 (i+(n - i1)) c11) ((l.take i++l.drop i1).map AA)):=hid (mQ HLs.out (by rw[hb1];exact aho.out));clear acP ahn H14 Oo aeK acO Vi aeM HLs Zk Ng Gg HP4;have ahp:Hid (Below b0 W7 Ca):=hid (abF.out.trans (aho.out.mono ahk));have Zi:Hid (∀x∈l,x<m.yP.length):=hid (by
   obtain⟨S,hS⟩:=hl.out.2;exact cZ Mz.out (hS.der (IX m)))
  have Ab:Hid ((∀x∈l.take i++l.drop i1,x<m.yP.length)/\(∀x∈l.take i++t::l.drop i,x<m.yP.length)/\(l.take i++l.drop i1).length<=40/\(l.take i++t::l.drop i).length<=40):=hid (by
   have h1:=hl.out.1;have h2:=HNT.out;refine⟨λx hx=>?_,λx hx=>?_,?_,?_⟩
   ·rcases gj.1 hx with h |h
    ·exact Zi.out x (vh h)
    ·exact Zi.out x (uh h)
   ·rcases gj.1 hx with h |h
    ·exact Zi.out x (vh h)
    ·rcases bh.1 h with h |h
     ·rw[h];omega
     ·exact Zi.out x (uh h)
   ·simp only[lA,nk,ku];omega
   ·simp only[lA,lC,nk,ku];omega)
  obtain⟨L1,Cb⟩:=qE (l.take i++l.drop i1);obtain⟨L2,hL2⟩:=qE (l.take i++t::l.drop i);obtain⟨nL,Jl⟩:=qE (i+(n - i1));obtain⟨nM,hnM⟩:=qE (i1+(n - i));rw[Cb,Jl]at aeN;rw[hL2,hnM]at HMr;rw[Cb,hL2]at Ab
  try rw[Jl]
  try rw[hnM]
  have HEq:=hid (And.intro Cb (And.intro hL2 hi1));clear Cb hL2 Jl hnM;have HPv:Hid (∀V,Below b0 W7 V->K3 T V gp/\TabAt 1 Lib.deBruijn32tab V):=hid λV hb=>
   have yT:=y6.out.trans (by rw[<-hb0]at hb;exact hb.mono Jn)
   ⟨Xs.out.1.below yT,(HGl.out V (Gw.out.trans (yT.mono Gw.out.size))).2⟩
  have Ck:Hid (∀V,Below Ca.heap.size Ca V->Hf V V.heap.size (.slice a11 nL c11) (L1.map AA)):=hid λV hb=>((X0 aeN.out (yF _)).below hb).mono hb.size
  have Lf:Hid (∀V,Below Ca.heap.size Ca V->Hf V V.heap.size (.slice a16 nM c16) (L2.map AA)):=hid λV hb=>((X0 HMr.out (yF _)).below hb).mono hb.size
  have akx:b0<=Ca.heap.size:=by have:=ahp.out.size;omega
  have Zl:Hid (∀V,Below Ca.heap.size Ca V->Below b0 W7 V):=hid λV hb=>ahp.out.trans (hb.mono akx)
  have HM1:Hid (∀V,Below Ca.heap.size Ca V->Calls Tryz.prog 22 #[ac gp,.slice a11 nL c11] V λe w'=>(∃c a1 n1 k1 a2 n2 k2 a3 n3 k3 a4 n4 k4 a5 n5 k5,e=.returned (.tuple #[.agg #[.slice a1 n1 k1,.slice a2 n2 k2,ab (c:Nat),.slice a3 n3 k3,.slice a4 n4 k4,.slice a5 n5 k5],ab 0])/\sI m L1 c/\c<=9000)/\Below V.heap.size V w'):=hid λV hb=>dA Mz.out (HPv.out V (Zl.out V hb)).1 Xs.out.2 (HPv.out V (Zl.out V hb)).2 Ab.out.1 (Ck.out V hb) Ab.out.2.2.1
  have HM2:Hid (∀V,Below Ca.heap.size Ca V->Calls Tryz.prog 22 #[ac gp,.slice a16 nM c16] V λe w'=>(∃c a1 n1 k1 a2 n2 k2 a3 n3 k3 a4 n4 k4 a5 n5 k5,e=.returned (.tuple #[.agg #[.slice a1 n1 k1,.slice a2 n2 k2,ab (c:Nat),.slice a3 n3 k3,.slice a4 n4 k4,.slice a5 n5 k5],ab 0])/\sI m L2 c/\c<=9000)/\Below V.heap.size V w'):=hid λV hb=>dA Mz.out (HPv.out V (Zl.out V hb)).1 Xs.out.2 (HPv.out V (Zl.out V hb)).2 Ab.out.2.1 (Lf.out V hb) Ab.out.2.2.2
  have HD1:Hid (∀V,Below Ca.heap.size Ca V->Calls Tryz.prog 37 #[ac gp,.slice a11 nL c11] V λe w'=>(∃(n:Nat) (a:Option Addr) (k:Nat) (st:Int),e=.returned (.tuple #[.slice a n k,ab st,ab 0])/\(0<n↔Has m L1))/\Below V.heap.size V w'):=hid λV hb=>ZS Mz.out (HPv.out V (Zl.out V hb)).1 Xs.out.2 Ab.out.1 (Ck.out V hb) Ab.out.2.2.1
  have Pf:Hid (∀V,Below Ca.heap.size Ca V->Calls Tryz.prog 37 #[ac gp,.slice a16 nM c16] V λe w'=>(∃(n:Nat) (a:Option Addr) (k:Nat) (st:Int),e=.returned (.tuple #[.slice a n k,ab st,ab 0])/\(0<n↔Has m L2))/\Below V.heap.size V w'):=hid λV hb=>ZS Mz.out (HPv.out V (Zl.out V hb)).1 Xs.out.2 Ab.out.2.1 (Lf.out V hb) Ab.out.2.2.2
  clear Ck Lf aeN HMr Ab
  go_upto_region 18 with(go_at_call 22;refine(HM1.out _ (ah _ _)).mono ?_;rintro e w17 ⟨⟨c1,a1,p1,k1,a2,p2,k2,a3,p3,k3,a4,p4,k4,a5,p5,k5,rfl,hc1,amc⟩,ahq⟩;have aeO:Hid (Below Ca.heap.size Ca w17):=hid ahq;have Oi:=hid hc1;clear ahq hc1 HM1)
  obtain⟨xb,Ue⟩:=qE (w17.heap.size);obtain⟨Zm,acQ⟩:=qE (w17.alloc (.cells #[.slice a1 p1 k1,.slice a2 p2 k2,ab c1,.slice a3 p3 k3,.slice a4 p4 k4,.slice a5 p5 k5] 48));have Ku:Hid (Zm.heap[xb]?=some (.cells #[.slice a1 p1 k1,.slice a2 p2 k2,ab c1,.slice a3 p3 k3,.slice a4 p4 k4,.slice a5 p5 k5] 48 (0,0))):=hid (by rw[<-acQ,<-Ue];exact ay w17 _);have ahr:Below w17.heap.size w17 Zm:=by rw[<-acQ];exact zl (ah _ _)
  rw[acQ,Ue];have aeP:Hid (Below Ca.heap.size Ca Zm):=hid (aeO.out.trans (ahr.mono aeO.out.size));clear acQ Ue ahr aeO
  go_upto_region 19 with(go_at_call 22;refine(HM2.out _ aeP.out).mono ?_;rintro e w18 ⟨⟨c2,a6,p6,k6,a7,p7,k7,a8,p8,k8,a9,p9,k9,a10,p10,k10,rfl,hc2,amd⟩,ahs⟩;have aeQ:Hid (Below Zm.heap.size Zm w18):=hid ahs;have Ke:=hid hc2;clear ahs hc2 HM2)
  obtain⟨yb,hyb⟩:=qE (w18.heap.size);obtain⟨Vm,acR⟩:=qE (w18.alloc (.cells #[.slice a6 p6 k6,.slice a7 p7 k7,ab c2,.slice a8 p8 k8,.slice a9 p9 k9,.slice a10 p10 k10] 48));have Ru:Hid (Vm.heap[yb]?=some (.cells #[.slice a6 p6 k6,.slice a7 p7 k7,ab c2,.slice a8 p8 k8,.slice a9 p9 k9,.slice a10 p10 k10] 48 (0,0))):=hid (by rw[<-acR,<-hyb];exact ay w18 _);have aht:Below w18.heap.size w18 Vm:=by rw[<-acR];exact zl (ah _ _)
  rw[acR,hyb];have aeR:Hid (Below Zm.heap.size Zm Vm):=hid (aeQ.out.trans (aht.mono aeQ.out.size));clear acR hyb aht aeQ;have abG:Hid (Below Ca.heap.size Ca Vm):=hid (aeP.out.trans (aeR.out.mono aeP.out.size))
  go_upto_region 20 with(go_at_call 37;refine(HD1.out _ abG.out).mono ?_;rintro e w19 ⟨⟨q1,e1,f1,st1,rfl,Ev⟩,ahu⟩;have aeS:Hid (Below Vm.heap.size Vm w19):=hid ahu;have HQ1:=hid Ev;clear ahu Ev HD1)
  have aky:Hid (Below Ca.heap.size Ca w19):=hid (abG.out.trans (aeS.out.mono abG.out.size))
  go_upto_region 21 with(go_at_call 37;refine(Pf.out _ aky.out).mono ?_;rintro e Iy ⟨⟨q2,e2,f2,st2,rfl,Kr⟩,Vn⟩;have aeT:Hid (Below Vm.heap.size Vm Iy):=hid (aeS.out.trans (Vn.mono aeS.out.size));have HQ2:=hid Kr;clear Vn Kr Pf)
  have akz:Hid (Below Ca.heap.size Ca Iy):=hid (abG.out.trans (aeT.out.mono abG.out.size));have hX1:Iy.heap[xb]?=_:=(aeT.out.block xb (ak ((aeR.out.block xb (ak Ku.out)).trans Ku.out))).trans ((aeR.out.block xb (ak Ku.out)).trans Ku.out);have hX2:Iy.heap[yb]?=_:=(aeT.out.block yb (ak Ru.out)).trans Ru.out;have x2:Iy.cell? (af xb 2)=some (ab c1):=(A0 hX1).trans rfl;have y2:Iy.cell? (af yb 2)=some (ab c2):=(A0 hX2).trans rfl;have Ev:((c1:Int)==0)=decide (0<q1):=by
   have h1:=Oi.out.zero;have h2:=HQ1.out
   by_cases h:Has m L1
   ·have h3:=h1.2 h
    have h4:=h2.2 h;subst h3;rw[ij h4];rfl
   ·have h3:c1≠0:=λe=>h (h1.1 e)
    have h4:¬0<q1:=λe=>h (h2.1 e)
    rw[fq h4,jz];omega
  have Kr:((c2:Int)==0)=decide (0<q2):=by
   have h1:=Ke.out.zero;have h2:=HQ2.out
   by_cases h:Has m L2
   ·have h3:=h1.2 h
    have h4:=h2.2 h;subst h3;rw[ij h4];rfl
   ·have h3:c2≠0:=λe=>h (h1.1 e)
    have h4:¬0<q2:=λe=>h (h2.1 e)
    rw[fq h4,jz];omega
  have ame:(!(((c1:Int)==0)==decide (0<q1)))=false:=by rw[Ev];simp
  have amf:(!(((c2:Int)==0)==decide (0<q2)))=false:=by rw[Kr];simp
  clear hX1 hX2
  go_upto_region 25 with fail
  have Vn:Below b0 W7 Iy:=Zl.out Iy akz.out;obtain⟨x,hx⟩:∃x,l[i]?=some x:=⟨_,gE (by rw[hl.out.1];exact hi)⟩;have Jm:x<nT:=by rw[<-HNT.out];exact Zi.out x (mG hx)
  have cg:Iy.cell? (af g i)=some (.string (AA x)):=by
   obtain⟨g',off,h1,h2,h3⟩:=HLC.out hpos;injection h1 with h1
   injection h1 with h1 h4 _
   subst h1;subst h4;have h5:=h3 i (AA x) (by rw[gM,hx];rfl);rw[jl]at h5;exact(Vn.cell (by rw[hb0]at h2;exact h2)).trans h5
  have hX:=HC.out Iy Vn;have m1:=hX.c1;have m2:=hX.c2;have mp:=hX.yP x (by rw[HNT.out];exact Jm);have md:=hX.zk t (by rw[HNT.out];exact ht);rw[HNT.out]at m1 m2;have ahv:c1<=m.yP.getD x 0:=by
   obtain⟨S,hS⟩:=hl.out.2;have h1:=sZ (N:=zg m) l (i:=i) (by rw[hl.out.1];exact hi);have h2:=Oi.out.least l _ (hS.der (IX m)) (by rw[<-HEq.out.1,<-HEq.out.2.2];exact h1);have h3:l[i]'(by rw[hl.out.1];exact hi)=x:=(yS.1 hx).2;rw[h3]at h2;exact h2
  have ahw:c2<=m.zk.getD t 0:=by
   obtain⟨S,hS⟩:=hl.out.2;exact Ke.out.least l _ (hS.der (IX m)) (by rw[<-HEq.out.2.1];exact uD (N:=zg m) l i t)
  obtain⟨p,hp⟩:=qE (m.yP.getD x 0);obtain⟨d,hd⟩:=qE (m.zk.getD t 0);rw[hp]at mp ahv;rw[hd]at md ahw;have Ty:(c1:Int)<=(p:Int):=by omega
  have hl2:(c2:Int)<=(d:Int):=by omega
  have hxi:((x:Int)< (nT:Int)):=by omega
  have hti:((t:Int)< (nT:Int)):=by omega
  have amg:((i:Int)< (n:Int)):=by omega
  have CX:Hid (∀k,Calls Tryz.prog 45 #[.string (AA x)] (Iy.drewN k) λe w'=>e=.returned (ab x)/\w'=Iy.drewN k):=hid λk=>(U6 x (by omega) _).mono λ_ _ h=>⟨h.1,h.2.symm⟩
  have CT:Hid (∀k,Calls Tryz.prog 45 #[.string (AA t)] (Iy.drewN k) λe w'=>e=.returned (ab t)/\w'=Iy.drewN k):=hid λk=>(U6 t (by omega) _).mono λ_ _ h=>⟨h.1,h.2.symm⟩
  have akA:Hid (Below w.heap.size w Iy):=hid (Gw.out.trans ((y6.out.trans (by rw[<-hb0]at Vn;exact Vn.mono Jn)).mono Gw.out.size));clear hX hx hp hd ahv ahw Vn
  go_quiet ((go_at_call 45;first |exact(CX.out _).mono λ_ _ h=>⟨h.1,_,h.2⟩ |exact(CT.out _).mono λ_ _ h=>⟨h.1,_,h.2⟩))
  go_wp2;go_ret;exact⟨rfl,below_drewN akA.out _⟩
end Go.Proofs.YtjjggdcnpndgjaaGreatDoor
