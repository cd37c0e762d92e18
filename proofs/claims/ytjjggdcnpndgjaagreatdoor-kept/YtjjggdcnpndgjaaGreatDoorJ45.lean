import Derived.Test.YtjjggdcnpndgjaaGreatDoorJ44
set_option linter.unusedSimpArgs false
set_option maxHeartbeats 16000000
set_option maxRecDepth 100000
namespace Go.Proofs.YtjjggdcnpndgjaaGreatDoor
open Go.RowKit Go.Shelf
variable {B B':Nat}{E:List EdP}{S:List GR}{T:Tab}{b l:List Nat}{m:Mk}{v:Value}{w:World}
theorem nJ {mb:Nat}{lf:Nat} (hm:m.Good) (hM:MkV w w.heap.size mb m) (hv:KG w v) (hl:lf<=3):
  Calls Tryz.prog 72 #[ac w.heap.size,.string ⟨#[65]⟩] (w.alloc (.cells #[ac mb,v,ab 0,.slice none 0 0,.slice none 0 0,ab lf] 143)) fun e w'=>e=.returned (.tuple #[])/\
   ∃l S rv tv,TrL (FN m) [.nam 0] l S/\l.length<=5 ^(lf+1)/\S.length<=6 ^(lf+1)/\w'.cell? (af w.heap.size 3)=some rv/\w'.cell? (af w.heap.size 4)=some tv/\DI w' w.heap.size rv (l.map AJ)/\w'.ownsRow w.heap.size 129 3 tv S.length (AY (S.map ndM))/\Below w.heap.size w w':=by
 have hb:Below w.heap.size w (w.alloc (.cells #[ac mb,v,ab 0,.slice none 0 0,.slice none 0 0,ab lf] 143)):=bal (Below.refl _ _);have h5:5 ^(lf+1)<=5 ^4:=Nat.pow_le_pow_right (by omega) (by omega);have h6:6 ^(lf+1)<=6 ^4:=Nat.pow_le_pow_right (by omega) (by omega);have h:=pR hm mb w.heap.size v lf (.nam 0) (by exact hm.n1) _ w.heap.size (.slice none 0 0) (.slice none 0 0) [] [] 0
  (fun W h=>⟨hM.below (hb.trans h),hv.below (hb.trans h)⟩) (lR_ _) hb.size ⟨World.alloc_heap_new w _,World.ownsRow_nil _ _ _ _,World.ownsRow_nil _ _ _ _⟩ (by omega) hl (by simp only[J4,List.length_nil];omega) (by simp only[J4,List.length_nil];omega)
 refine h.mono ?_;rintro e w' ⟨rfl,l,S,rv,tv,x',lf',h1,_,_,h2,h3,h4,h5⟩;have hr:=h4.row;have ht:=h4.tree;rw[List.nil_append]at hr ht;rw[lM]at ht;exact⟨rfl,l,S,rv,tv,h1,h2,h3,(A0 h4.blk).trans rfl,(A0 h4.blk).trans rfl,hr,ht,hb.trans h5⟩
theorem bL  (hm:m.Good) (w:World) (mb:Nat) (v:Value) (hM:MkV w w.heap.size mb m) (hv:KG w v):
  Calls Tryz.prog 36 #[ac mb,v] w fun e w'=>∃l S rv tv,e=.returned (.tuple #[rv,tv])/\TrL (FN m) [.nam 0] l S/\l.length<=625/\S.length<=1296/\DI w' w.heap.size rv (l.map AJ)/\w'.ownsRow w.heap.size 129 3 tv S.length (AY (S.map ndM))/\Below w.heap.size w w':=by
 have HG:=hid (nJ (lf:=3) hm hM hv (lR_ _));obtain⟨ad,n,cap,rfl,_⟩:=hv;clear hM
 go_enter Tryz.func36,Tryz.ntmps36
 go_wp2_with (go_at_call 72;refine HG.out.mono ?_;rintro e w2 ⟨rfl,l,S,rv,tv,h1,h2,h3,c3,c4,h6,h7,h8⟩;have H:=hid (And.intro h1 (And.intro h2 (And.intro h3 (And.intro h6 (And.intro h7 h8)))));clear h1 h2 h3 h6 h7 h8)
 go_quiet (fail)
 go_wp2
 go_ret2
 exact⟨l,S,rv,tv,rfl,H.out.1,H.out.2.1,H.out.2.2.1,H.out.2.2.2.1,H.out.2.2.2.2.1,below_drewN H.out.2.2.2.2.2 _⟩
def sH (N:NG) (row:List Nat) (e:EdP):Prop:=(e.kind=1/\e.old=N.nT/\e.new<N.nT/\e.cost=N.put e.new)\/(e.kind=2/\row[e.loc]?=some e.old/\e.new=N.nT/\e.cost=N.drop e.old)\/(e.kind=3/\row[e.loc]?=some e.old/\e.new<N.nT/\e.cost=N.swp e.old e.new/\e.cost≠0)
theorem Run.fit {N:NG}{row:List Nat}{i j:Nat}{c:Nat} (h:Run N row i E j b c):∀e∈E,sH N row e:=by
 induction h with
 |done i=>intro e he;cases he
 |keep hx _ ih=>exact ih
 |put ht _ ih=>
  intro e he
  rcases List.mem_cons.1 he with rfl |he
  ·exact .inl ⟨rfl,rfl,ht,rfl⟩
  ·exact ih e he
 |drop hx _ ih=>
  intro e he
  rcases List.mem_cons.1 he with rfl |he
  ·exact .inr (.inl ⟨rfl,hx,rfl,rfl⟩)
  ·exact ih e he
 |swap hx hu hn hs _ ih=>
  intro e he
  rcases List.mem_cons.1 he with rfl |he
  ·exact .inr (.inr ⟨rfl,hx,hu,rfl,hs⟩)
  ·exact ih e he
def wdM (m:Mk) (t:Nat):ByteArray:=if t=m.puts.length then ByteArray.empty else AJ t
def wK (w:World) (B:Nat) (v:Value) (m:Mk) (E:List EdP):Prop:=∃ad cap,v=.slice ad E.length cap/\E.length<=cap/\(0<E.length->∃g,ad=some (af g 0)/\g<B/\∀(k:Nat) (e:EdP),E[k]?=some e->w.cell? (af g (k*4))=some (ab e.loc)/\w.cell? (af g (k*4+1))=some (ab e.kind)/\w.cell? (af g (k*4+2))=some (.string (wdM m e.old))/\w.cell? (af g (k*4+3))=some (.string (wdM m e.new)))
def vF (w:World) (B:Nat) (v:Value) (E:List EdP):Prop:=∃ad cap,v=.slice ad E.length cap/\E.length<=cap/\(0<E.length->∃g,ad=some (af g 0)/\g<B/\∀(k:Nat) (e:EdP),E[k]?=some e->w.cell? (af g k)=some (ab e.cost))
structure PmT (m:Mk) (T:Tab):Prop where
 N:T.N=ngM m
 tws:T.tws=N4 m
 rul:T.rul=FN m
 pg:T.pg=pgM m
theorem PmT.spl  (h:PmT m T) {p:Pt} (hp:EL m.puts.length m.rules.length p):IL T p=ER p:=by
 cases p with
 |tok t=>
  show nth T.tws t=AJ t;rw[h.tws,OM m hp]
 |nam n=>
  have hp:n<m.rules.length:=hp;show(T.pg.getD n _).1=BL n;rw[h.pg,gD_,RC m (gE hp)];rfl
theorem p8  (hm:m.Good) {ps:List Pt} (h:TrL (FN m) ps l S):(∀p∈ps,EL m.puts.length m.rules.length p)->∀nd∈S,EL m.puts.length m.rules.length nd.part:=by
 induction h with
 |nil=>intro _ nd hnd;cases hnd
 |tok _ ih=>
  intro hp nd hnd
  rcases List.mem_cons.1 hnd with rfl |h1
  ·exact hp _ (List.mem_cons_self ..)
  ·exact ih (fun p h=>hp p (List.mem_cons_of_mem _ h)) nd h1
 |nam hk _ _ ih1 ih2=>
  intro hp nd hnd
  rcases List.mem_cons.1 hnd with rfl |h1
  ·exact hp _ (List.mem_cons_self ..)
  ·rcases List.mem_append.1 h1 with h2 |h2
   ·obtain⟨rs,h3,h4⟩:=M6 hk
    exact ih1 (hm.part rs (EM h3).2 _ (mG h4)) nd h2
   ·exact ih2 (fun p h=>hp p (List.mem_cons_of_mem _ h)) nd h2
theorem pQ  (hm:m.Good):∀p∈ [Pt.nam 0],EL m.puts.length m.rules.length p:=fun p hp=>by
 rw[mS.1 hp];exact hm.n1
theorem PmT.nds  (h:PmT m T) (hm:m.Good)  (hS:TrL (FN m) [.nam 0] l S):S.map (N7 T)=S.map ndM:=by
 apply List.map_congr_left;intro nd hnd;unfold N7 ndM;rw[h.spl (p8 hm hS (pQ hm) nd hnd)]
theorem PmT.word  (h:PmT m T) (t:Nat) (ht:t<=m.puts.length):D1 T.tws T.N.nT t=wdM m t:=by
 unfold D1 wdM;have e:T.N.nT=m.puts.length:=by rw[h.N];rfl
 rw[e]
 by_cases h1:t=m.puts.length
 ·rw[if_pos h1,if_pos h1]
 ·rw[if_neg h1,if_neg h1,h.tws,OM m (by omega)]
theorem PmT.wds  (h:PmT m T)  (hb:∀t∈b,t<m.puts.length):wdC T b=J1 (b.map AJ):=by
 unfold wdC J1;rw[List.map_map];apply List.map_congr_left;intro t ht;have:=hb t ht;rw[h.word t (by omega)];unfold wdM;rw[if_neg (by omega)];rfl
theorem cY  (hm:m.Good)  (h:Der (ngM m) [.nam 0] b):∀t∈b,t<m.puts.length:=
 fun t ht=>nK (IU hm) h (fun t h=>by simp at h) t ht
theorem tE  (h:PmT m T) {row:List Nat} (hrow:∀t∈row,t<m.puts.length) (hE:∀e∈E,sH (ngM m) row e) (ho:w.ownsRow B 121 4 v E.length (E.flatMap (aeC T))) (hB:w.heap.size<=B'):wK w B' v m E:=by
 obtain⟨ad,cap,e,hc⟩:=EB ho;refine⟨ad,cap,e,hc,fun h0=>?_⟩;obtain⟨g,cap',e2,_,hg2,_⟩:=AX ho h0;rw[e]at e2;injection e2 with e3 _ e4
 subst e3;subst e4;subst e;refine⟨g,rfl,by omega,fun k ed hk=>?_⟩;have hk':=(gS_.1 hk).1;have hf:∀a,(aeC T a).length=4:=fun _=>rfl
 have g0:=PV (aeC T) hf E k ed 0 hk (by omega);have g1:=PV (aeC T) hf E k ed 1 hk (by omega);have g2:=PV (aeC T) hf E k ed 2 hk (by omega);have g3:=PV (aeC T) hf E k ed 3 hk (by omega);have hle:ed.old<=m.puts.length/\ed.new<=m.puts.length:=by
  have hN:(ngM m).nT=m.puts.length:=rfl
  rcases hE ed (mG hk)with⟨_,h1,h2,_⟩ | ⟨_,h1,h2,_⟩ | ⟨_,h1,h2,_⟩
  ·rw[hN]at h1 h2;omega
  ·have:=hrow _ (mG h1);rw[hN]at h2;omega
  ·have:=hrow _ (mG h1);rw[hN]at h2;omega
 refine⟨(ho.cellAt (k*4) (by omega)).trans g0,(ho.cellAt (k*4+1) (by omega)).trans g1,?_,?_⟩
 ·rw[<-h.word _ hle.1];exact(ho.cellAt (k*4+2) (by omega)).trans g2
 ·rw[<-h.word _ hle.2];exact(ho.cellAt (k*4+3) (by omega)).trans g3
theorem tU  (ho:DD w B v (E.map (·.cost))) (hB:w.heap.size<=B'):vF w B' v E:=by
 have ho2:=ho;unfold DD at ho;rw[lM]at ho;obtain⟨ad,cap,e,hc⟩:=EB ho;refine⟨ad,cap,e,hc,fun h0=>?_⟩;obtain⟨g,cap',e2,_,hg2,_⟩:=AX ho h0;rw[e]at e2;injection e2 with e3 _ e4
 subst e3;subst e4;subst e;refine⟨g,rfl,by omega,fun k ed hk=>ho2.at (by rw[gM,hk];rfl)⟩
theorem uS {l:List ByteArray} (h:DI w B v l) (hB:w.heap.size<=B'):RwS w B' v l:=by
 obtain⟨ad,cap,e,hc⟩:=EB h;refine⟨ad,cap,e,hc,fun h0=>?_⟩;obtain⟨g,cap',e2,_,hg2,_⟩:=AX h h0;rw[e]at e2;injection e2 with e3 _ e4
 subst e3;subst e4;subst e;refine⟨g,0,rfl,by omega,fun i x hx=>?_⟩;have hi:=(gS_.1 hx).1;rw[Nat.zero_add];refine(World.ownsRow.cellAt h i (by omega)).trans ?_;unfold J1;rw[gM,hx];rfl
theorem lF (s:ByteArray) (w:World) (hG:DM w) (hs:s.size<=9223372036854775807) (hok:s.size<=4000->KS (AE (AF s 0).1)):
  Calls Tryz.prog 71 #[.string s] w fun e w'=>e=.returned (wM (DT s))/\Below w.heap.size w w':=by
 have cC:=SD s w hG hs hok;obtain⟨r1,r2,hr⟩:∃r1 r2,DT s=(r1,r2):=⟨_,_,rfl⟩;have CC:Hid (Calls Tryz.prog 113 #[.string s] w fun e w'=>(∃v,e=.returned (.tuple #[v,ab r1,ab r2]))/\Below w.heap.size w w'):=hid (cC.mono (by
  rintro e w' ⟨v,he,_,hb⟩;rw[hr]at he;exact⟨⟨v,he⟩,hb⟩))
 rw[hr];clear cC hr hok hG
 go_enter Tryz.func71,Tryz.ntmps71
 go_wp2_with (first | (go_at_call 113;refine CC.out.mono ?_;rintro e w1 ⟨⟨v,rfl⟩,hb1⟩))
 go_ret2
 exact⟨rfl,hb1⟩
theorem nZ  (h:m.Good):DT (BO m)=(0,0):=by
 have hs:=MI h;unfold DT;rw[if_neg (by omega),if_neg (by rw[RR h];simp)];show(match CJ (pM m) []with
  |some a=>(3,(a:Int))
  |none=>match BU (pM m) 0 0 0 with
   |some a=>(4,(a:Int))
   |none=>if(pM m).any (fun x=>x.2.1==2)then(match EY (AG (pM m)) (pM m)with
     |some a=>(5,(a:Int))
     |none=>(0,0))
    else(4,((BO m).size:Int)):Int × Int)=(0,0)
 rw[MG (pM m) [] (VU h),OO (pM m) 0 0 0 (by rw[YQ h];have:=h.t6;omega) (by rw[KP h];have:=h.n4;omega) ?_ ?_,ZM (mX h)]
 ·have:(pM m).any (fun x=>x.2.1==2)=true:=by
   rw[List.any_eq_true];have hl:=KP h;have h1:=h.n1;obtain⟨x,hx⟩:=List.exists_mem_of_length_pos (show 0< (AL (pM m)).length by omega);exact⟨x,(List.mem_filter.1 hx).1,(List.mem_filter.1 hx).2⟩
  simp[this]
 ·have h1:((AL (pM m)).flatMap fun x=>A8 x.2.2).length<=(AL (pM m)).length*6:=J0 fun x hx=>by
   obtain⟨n,rs,hn,e⟩:=NF h hx;rw[e,JM h hn,lM];have:=(h.c1 rs (h.rl hn).2).2;have:=h.t6;omega
  rw[KP h]at h1;have:=h.n4;have:m.rules.length*6<=24:=by omega
  omega
 ·intro x hx
  obtain⟨n,rs,hn,e⟩:=NF h hx;rw[e,JM h hn];refine gI fun r hr=>?_
  obtain⟨q,hq,rfl⟩:=List.mem_map.1 hr;obtain⟨k,hk,rfl⟩:=List.mem_iff_getElem.1 hq;have:=(h.head rs (h.rl hn).2 k _ (gE hk)).2;rw[lM];omega
theorem kM  (h:m.Good) (w:World) (hG:DM w):
  Calls Tryz.prog 34 #[.string (BO m)] w fun e w'=>e=.returned (.tuple #[ab 0,ab 0])/\Below w.heap.size w w':=by
 have hs:(BO m).size<=9223372036854775807:=by have:=MI h;omega
 have CC:Hid (Calls Tryz.prog 71 #[.string (BO m)] w fun e w'=>e=.returned (.tuple #[ab 0,ab 0])/\Below w.heap.size w w'):=hid ((lF (BO m) w hG hs (TM (BO m))).mono (by
  rintro e w' ⟨he,hb⟩;rw[nZ h]at he;exact⟨he,hb⟩))
 obtain⟨s,hs'⟩:=qE (BO m);rw[hs']at CC ⊢;clear hs hs' hG
 go_enter Tryz.func34,Tryz.ntmps34
 go_wp2_with (go_at_call 71;refine CC.out.mono ?_;rintro e w1 ⟨rfl,hb1⟩)
 go_ret2
 exact⟨rfl,hb1⟩
theorem PmT.row  (h:PmT m T)  (hl:∀t∈l,t<m.puts.length):l.map (nth T.tws)=l.map AJ:=by
 apply List.map_congr_left;intro t ht;rw[h.tws,OM m (hl t ht)]
theorem PmT.nT  (h:PmT m T):T.N.nT=m.puts.length:=by rw[h.N];rfl
theorem XP  (hm:m.Good) {gp:Nat}{rv:Value} (h:LQ T w gp) (hp:PmT m T) (hl:∀t∈l,t<m.puts.length) (hrow:RwS w w.heap.size rv (l.map AJ)) (hn:l.length<=1000):
  Calls Tryz.prog 37 #[ac gp,rv] w fun e w'=>Below w.heap.size w w'/\((40<l.length/\e=.returned (.tuple #[.slice none 0 0,ab 0,ab 10]))\/(l.length<=40/\
   ((∃S v,TrL (FN m) [.nam 0] l S/\e=.returned (.tuple #[v,ab (-1),ab 0])/\w'.ownsRow w.heap.size 129 3 v S.length (AY (S.map ndM)))\/
    (∃i:Nat,M3 T l i/\(∀S,¬TrL (FN m) [.nam 0] l S)/\e=.returned (.tuple #[.slice none 0 0,ab i,ab 0]))))):=by
 refine(nH h (by rw[hp.nT];exact hl) (by rw[hp.row hl];exact hrow) hn).mono ?_;rintro e w' ⟨hb,⟨h1,h2⟩ | ⟨h1,⟨S,v,h2,h3,h4⟩ | ⟨i,h2,h3⟩⟩⟩
 ·exact⟨hb,.inl ⟨h1,h2⟩⟩
 ·rw[hp.rul]at h2
  rw[hp.nds hm h2]at h4;exact⟨hb,.inr ⟨h1,.inl ⟨S,v,h2,h3,h4⟩⟩⟩
 ·refine⟨hb,.inr ⟨h1,.inr ⟨i,h2,fun S hS=>aX h2 ?_,h3⟩⟩⟩
  have:=fV (KL m) (K7 hm) (hS.der (KL m)) [];rw[hp.rul];simpa using this
structure r9 (m:Mk) (w:World) (B:Nat) (row:List Nat) (E:List EdP) (b:List Nat) (c:Nat) (S:List GR) (ve vc vr vt:Value):Prop where
 run:Run (ngM m) row 0 E row.length b c
 tree:TrL (FN m) [.nam 0] b S
 least:∀b' c',Der (ngM m) [.nam 0] b'->Al (ngM m) row b' c'->c<=c'
 ed:wK w w.heap.size ve m E
 co:vF w w.heap.size vc E
 wd:DI w B vr (b.map AJ)
 nd:w.ownsRow B 129 3 vt S.length (AY (S.map ndM))
 c9:c<=9000
theorem YA  (hm:m.Good) {gp:Nat}{rv:Value} (h:LQ T w gp) (hp:PmT m T) (hT:TabAt 1 Lib.deBruijn32tab w) (hl:∀t∈l,t<m.puts.length) (hrow:RwS w w.heap.size rv (l.map AJ)) (hn:l.length<=1000):
  Calls Tryz.prog 22 #[ac gp,rv] w fun e w'=>Below w.heap.size w w'/\((40<l.length/\e=.returned (.tuple #[.agg #[.slice none 0 0,.slice none 0 0,ab 0,.slice none 0 0,.slice none 0 0,.slice none 0 0],ab 10]))\/(l.length<=40/\
   ∃E b c S ve vc vr vt vx xs X,e=.returned (.tuple #[.agg #[ve,vc,ab (c:Nat),vr,vt,vx],ab 0])/\r9 m w' w.heap.size l E b c S ve vc vr vt/\QA T w' w.heap.size l E b c S ve vc vr vt vx xs X)):=by
 have htl:1<w.heap.size:=World.block_lt_of_cell? _ _ (hT 0 (by decide));refine(mJ h (fun V hb=>TabAt.below hT hb htl) (by rw[hp.nT];exact hl) (by rw[hp.row hl];exact hrow) hn (by rw[hp.N];exact t8 hm) (fun h40=>by rw[hp.N];exact YT hm l hl h40)).mono ?_;rintro e w' ⟨hb,⟨h1,h2⟩ | ⟨h1,E,b,c,S,ve,vc,vr,vt,vx,xs,X,h2,hV⟩⟩
 ·exact⟨hb,.inl ⟨h1,h2⟩⟩
 ·have hrun:=hV.run
  have htree:=hV.tree;have hleast:=hV.least;rw[hp.N]at hrun hleast;rw[hp.rul]at htree;have hnd:=hV.nd;rw[hp.nds hm htree]at hnd;have hbt:=cY hm (htree.der (KL m));have hwd:=hV.wd;rw[hp.wds hbt]at hwd;refine⟨hb,.inr ⟨h1,E,b,c,S,ve,vc,vr,vt,vx,xs,X,h2,⟨hrun,htree,hleast,tE hp hl hrun.fit hV.ed (lR_ _),tU hV.co (lR_ _),?_,hnd,?_⟩,hV⟩⟩
  ·unfold DI;rw[lM];exact hwd
  ·obtain⟨b',c',h3,h4,h5⟩:=YT hm l hl h1
   exact lT_ (hleast b' c' h3 h4) h5
theorem DI.shape {l:List ByteArray} (h:DI w B v l):∃a c,v=.slice a l.length c/\l.length<=c/\(0<l.length->∃g,a=some (af g 0)/\∀j s,l[j]?=some s->w.cell? (af g j)=some (.string s)):=by
 have hl:(J1 l).length=l.length:=by unfold J1;simp
 rcases h.2 with⟨h1,h2⟩ | ⟨g,cap,cur,h1,_,hg,hnc,_,hs,ht⟩
 ·rw[h2];exact⟨none,0,h1,lR_ _,fun h=>by omega⟩
 ·refine⟨_,cap,h1,hnc,fun _=>⟨g,rfl,fun j s hj=>?_⟩⟩
  have hjl:=(gS_.1 hj).1;have h3:w.ownsRow B 9 1 (ae g l.length cap) l.length (J1 l):=by have h4:=h;rw[h1]at h4;exact h4
  rw[h3.cellAt j (by omega)];unfold J1;rw[gM,hj];rfl
theorem Mz38 {P:Prop} (h:P:=by
  go_wp2
  go_quiet (fail)
  go_wp2
  go_roundw
  case rel=>exact⟨j+1,_,by omega,by go_num,by first |rfl |exact World.drewN_drewN ..⟩
  case measure=>simp[intOf];omega):P:=h
theorem YW (w:World) (v1 v2:Value) (l:List ByteArray) (B1 B2:Nat) (h1:DI w B1 v1 l) (h2:DI w B2 v2 l) (hn:l.length<=100000):
  Calls Tryz.prog 32 #[v1,v2] w fun e w'=>e=.returned (.bool true)/\∃q,w'=w.drewN q:=by
 obtain⟨a1,c1,rfl,hc1,hg1⟩:=h1.shape;obtain⟨a2,c2,rfl,hc2,hg2⟩:=h2.shape;obtain⟨n,hN⟩:=qF (l.length);rw[<-hN]at hn hc1 hc2 hg1 hg2 ⊢;have HN:Hid (n=l.length):=hid hN;have HG1:=hid hg1;have HG2:=hid hg2;clear hg1 hg2 hN h1 h2;have hd:((n:Int)==(n:Int))=true:=by simp
 go_enter Tryz.func32,Tryz.ntmps32
 go_wp2
 go_loopw [5] (fun i wr=>∃j q:Nat,j<=n/\i=ab j/\wr=w.drewN q) (fun i _=>n - (intOf i).toNat)
 case atStart=>exact⟨0,0,Nat.zero_le _,rfl,rfl⟩
 case round=>
  obtain⟨j,q,hj,rfl,rfl⟩:=hrel
  by_cases hlt:j<n
  ·obtain⟨s,hs⟩:∃s,l[j]?=some s:=⟨_,gE y44Z⟩
   obtain⟨g1,rfl,k1⟩:=HG1.out (by omega);obtain⟨g2,rfl,k2⟩:=HG2.out (by omega);have p1:=k1 j s hs;have p2:=k2 j s hs;clear k1 k2 hs;exact Mz38
  ·go_wp2
   go_ret;exact⟨rfl,_,rfl⟩
theorem bX (w:World) (v1 v2:Value) (NS:List NdV) (B1 B2:Nat) (h1:w.ownsRow B1 129 3 v1 NS.length (AY NS)) (h2:w.ownsRow B2 129 3 v2 NS.length (AY NS)) (hn:NS.length<=100000):
  Calls Tryz.prog 38 #[v1,v2] w fun e w'=>e=.returned (.bool true)/\∃q,w'=w.drewN q:=by
 have HP:Hid (∀j,j<NS.length->∃(s:ByteArray) (k:Int) (z:Nat),NS[j]?=some (s,k,z)):=hid fun j hj=>⟨_,_,_,gE hj⟩
 have key:∀{v:Value}{B:Nat},w.ownsRow B 129 3 v NS.length (AY NS)->∃ad cap,v=.slice ad NS.length cap/\NS.length<=cap/\(0<NS.length->∃g,ad=some (af g 0)/\∀j (s:ByteArray) (k:Int) (z:Nat),NS[j]?=some (s,k,z)->w.cell? (af g (j*3))=some (.string s)/\w.cell? (af g (j*3+1))=some (ab k)/\w.cell? (af g (j*3+2))=some (ab z)):=fun {v B} h=>by
  by_cases h0:0<NS.length
  ·obtain⟨g,cap,rfl,_,_,hc⟩:=AX h h0
   refine⟨_,cap,rfl,hc,fun _=>⟨g,rfl,fun j s k z hj=>?_⟩⟩;obtain⟨hl,e⟩:=gS_.1 hj;have hs:NS=NS.take j++(s,k,z)::NS.drop (j+1):=by rw[<-e,<-List.drop_eq_getElem_cons hl,List.take_append_drop]
   have hj':(NS.take j).length=j:=by rw[List.length_take];omega
   obtain⟨k1,k2,k3⟩:=KW (NS.take j) (NS.drop (j+1)) (s,k,z);rw[<-hs,hj']at k1 k2 k3;exact⟨(h.cellAt _ (by omega)).trans k1,(h.cellAt _ (by omega)).trans k2,(h.cellAt _ (by omega)).trans k3⟩
  ·obtain⟨ad,cap,e,hc⟩:=EB h
   exact⟨ad,cap,e,hc,fun h=>absurd h h0⟩
 obtain⟨a1,c1,rfl,hc1,hg1⟩:=key h1;obtain⟨a2,c2,rfl,hc2,hg2⟩:=key h2;obtain⟨n,hN⟩:=qF (NS.length);rw[<-hN]at hn hc1 hc2 hg1 hg2 HP ⊢;have HG1:=hid hg1;have HG2:=hid hg2;clear hg1 hg2 hN h1 h2 key;have hd:((n:Int)==(n:Int))=true:=by simp
 go_enter Tryz.func38,Tryz.ntmps38
 go_wp2
 go_loopw [5] (fun i wr=>∃j q:Nat,j<=n/\i=ab j/\wr=w.drewN q) (fun i _=>n - (intOf i).toNat)
 case atStart=>exact⟨0,0,Nat.zero_le _,rfl,rfl⟩
 case round=>
  obtain⟨j,q,hj,rfl,rfl⟩:=hrel
  by_cases hlt:j<n
  ·obtain⟨s,k,z,hs⟩:=HP.out j hlt
   obtain⟨g1,rfl,k1⟩:=HG1.out (by omega);obtain⟨g2,rfl,k2⟩:=HG2.out (by omega);obtain⟨p1,p2,p3⟩:=k1 j s k z hs;obtain⟨q1,q2,q3⟩:=k2 j s k z hs;clear k1 k2 hs;have hs1:(s.toList==s.toList)=true:=by simp
   have hk1:(k==k)=true:=by simp
   have hz1:((z:Int)==(z:Int))=true:=by simp
   exact Mz38
  ·go_wp2
   go_ret;exact⟨rfl,_,rfl⟩
theorem J9 {w':World}{e sz n:Nat}{xs:List Value} (h:w.ownsRow B e sz v n xs) (hb:Below w.heap.size w w'):w'.ownsRow B e sz v n xs:=A7 h (A1.of_below hb []) (by simp)
theorem r9.none  (hm:m.Good) {c:Nat}{S':List GR}{ve vc vr vt:Value} (h:r9 m w B l E b c S ve vc vr vt) (hl:∀t∈l,t<m.puts.length) (hS:TrL (FN m) [.nam 0] l S'):c=0/\E=[]/\b=l/\S=S':=by
 have h0:c=0:=Nat.le_zero.1 (h.least l 0 (hS.der (KL m)) (Al.refl _ l));have h1:E=[]:=(h.run.free (IU hm) hl).1 h0;have h2:b=l:=by
  have:=h.run.same (lR_ _) h1;rw[this,List.drop_zero,Nat.sub_zero,List.take_length]
 refine⟨h0,h1,h2,?_⟩;subst h2;exact(h.tree.one (c:=[]) (c':=[]) (K7 hm) hS rfl).2
theorem pZ (v1 v2:Value) (w:World) (hG:DM w) (hT:TabAt 1 Lib.deBruijn32tab w) (h1:KG w v1) (h2:KG w v2):
  Calls Tryz.prog 11 #[v1,v2] w fun e w'=>e=.returned (.bool true)/\Below w.heap.size w w':=by
 have htl:1<w.heap.size:=World.block_lt_of_cell? _ _ (hT 0 (by decide));have HGl:Hid (∀W,Below w.heap.size w W->DM W/\TabAt 1 Lib.deBruijn32tab W):=hid fun W hb=>⟨hG.below hb hG.size,TabAt.below hT hb htl⟩
 have HV2:Hid (∀W,Below w.heap.size w W->KG W v2):=hid fun W hb=>h2.below hb
 have HB:=hid (o7 v1 w h1);obtain⟨ad1,n1,cap1,rfl,_⟩:=h1;obtain⟨ad2,n2,cap2,rfl,_⟩:=h2;clear hG hT htl
 go_enter Tryz.func11,Tryz.ntmps11
 go_upto_region 2 with(go_at_call 27;refine HB.out.mono ?_;rintro e w1 ⟨b,m,rfl,hg,hM,hb1⟩;have HGd:=hid hg;have HM:=hid hM;have HB1:=hid hb1;clear hg hM hb1 HB)
 obtain⟨s,hs⟩:=qE (BO m);have HT1:Hid (Calls Tryz.prog 29 #[ac b] w1 fun e w'=>e=.returned (.string s)/\Below w1.heap.size w1 w'):=hid (by rw[<-hs];exact qN m HGd.out w1 b HM.out);have HCk:Hid (∀V,Below w.heap.size w V->Calls Tryz.prog 34 #[.string s] V fun e w'=>e=.returned (.tuple #[ab 0,ab 0])/\Below V.heap.size V w'):=hid fun V hb=>by rw[<-hs];exact kM HGd.out V (HGl.out V hb).1
 have HCl:Hid (∀V,Below w.heap.size w V->Calls Tryz.prog 15 #[.string s] V fun e w'=>e=.returned (.tuple #[.agg #[.string ByteArray.empty,ab 0,ab 0,.string ByteArray.empty],ab 0])/\Below V.heap.size V w'):=hid fun V hb=>by rw[<-hs];exact iD HGd.out V (HGl.out V hb).1 (HGl.out V hb).2
 have HCo:Hid (∀V,Below w.heap.size w V->Calls Tryz.prog 35 #[.string s] V fun e w'=>∃(gp:Nat) (T:Tab),e=.returned (.tuple #[ac gp,ab 0])/\LQ T w' gp/\PmT m T/\Below V.heap.size V w'):=hid fun V hb=>by
  rw[<-hs];refine(ZZ HGd.out V (HGl.out V hb).1 (HGl.out V hb).2).mono ?_;rintro e w' ⟨gp,T,h1,h2,h3,h4,h5,h6,h7⟩;exact⟨gp,T,h1,h2,⟨h3,h4,h5,h6⟩,h7⟩
 clear hs
 go_upto_region 3 with(go_at_call 29;refine HT1.out.mono ?_;rintro e w2 ⟨rfl,hb2⟩;have HB2:Hid (Below w1.heap.size w1 w2):=hid hb2;clear hb2 HT1)
 have HW2:Hid (Below w.heap.size w w2):=hid (HB1.out.trans (HB2.out.mono HB1.out.size))
 go_upto_region 4 with(go_at_call 34;refine(HCk.out _ HW2.out).mono ?_;rintro e w3 ⟨rfl,hb3⟩;have HB3:Hid (Below w1.heap.size w1 w3):=hid (HB2.out.trans (hb3.mono HB2.out.size));clear hb3 HB2 HW2)
 have HW3:Hid (Below w.heap.size w w3):=hid (HB1.out.trans (HB3.out.mono HB1.out.size))
 go_upto_region 5 with(go_at_call 15;refine(HCl.out _ HW3.out).mono ?_;rintro e w4 ⟨rfl,hb4⟩;have HB4:Hid (Below w1.heap.size w1 w4):=hid (HB3.out.trans (hb4.mono HB3.out.size));clear hb4 HB3 HW3)
 obtain⟨W4,hW4⟩:=qE (w4.alloc (.cells #[.string ByteArray.empty,ab 0,ab 0,.string ByteArray.empty] 27));have HB5:Hid (Below w1.heap.size w1 W4):=hid (by rw[<-hW4];exact HB4.out.alloc HB4.out.size _);rw[hW4];clear hW4 HB4;have HW4:Hid (Below w.heap.size w W4):=hid (HB1.out.trans (HB5.out.mono HB1.out.size))
 go_upto_region 8 with(go_at_call 35;refine(HCo.out _ HW4.out).mono ?_;rintro e w5 ⟨gp,T,rfl,hp,ht,hb5⟩;have HP5:=hid (And.intro hp ht);have HB6:Hid (Below w1.heap.size w1 w5):=hid (HB5.out.trans (hb5.mono HB5.out.size));clear hb5 hp ht HB5 HW4)
 have HW5:Hid (Below w.heap.size w w5):=hid (HB1.out.trans (HB6.out.mono HB1.out.size));have HSe:=hid (bL HGd.out w5 b _ ((HM.out.below HB6.out).up HB6.out.size) (HV2.out w5 HW5.out))
 go_upto_region 9 with(go_at_call 36;refine HSe.out.mono ?_;rintro e w6 ⟨l,S,rv,tv,rfl,hS,hl,hSl,hrv,htv,hb6⟩;obtain⟨arv,crv,hrv0⟩:=BQ hrv;obtain⟨atv,ctv,htv0⟩:=BQ htv;have H6:=hid (And.intro hS (And.intro hl (And.intro hSl (And.intro hrv (And.intro htv hb6)))));clear hS hl hSl hrv htv hb6 HSe)
 subst hrv0;subst htv0;rw[lM]at H6;have HW6:Hid (Below w.heap.size w w6):=hid (HW5.out.trans (H6.out.2.2.2.2.2.mono HW5.out.size));have HLt:Hid (∀t∈l,t<m.puts.length):=hid (cY HGd.out (H6.out.1.der (KL m)));have HRow:Hid (∀V,Below w6.heap.size w6 V->RwS V V.heap.size (.slice arv l.length crv) (l.map AJ)):=hid fun V hb=>((uS H6.out.2.2.2.1 (lR_ _)).below hb).mono hb.size
 have HPv:Hid (∀V,Below w6.heap.size w6 V->LQ T V gp/\TabAt 1 Lib.deBruijn32tab V):=hid fun V hb=>
  ⟨HP5.out.1.below ((H6.out.2.2.2.2.2).trans (hb.mono H6.out.2.2.2.2.2.size)),(HGl.out V (HW6.out.trans (hb.mono HW6.out.size))).2⟩
 obtain⟨nl,hnl⟩:=qE (l.length);have hl6:=H6.out.2.1
 try rw[lM]
 rw[hnl]at hl6 HRow ⊢;have HNl:Hid (l.length=nl):=hid hnl
 by_cases h40:40<nl
 ·have HRd:Hid (Calls Tryz.prog 37 #[ac gp,.slice arv nl crv] w6 fun e w'=>e=.returned (.tuple #[.slice none 0 0,ab 0,ab 10])/\Below w6.heap.size w6 w'):=hid ((XP HGd.out (HPv.out w6 (Below.refl _ _)).1 HP5.out.2 HLt.out (HRow.out w6 (Below.refl _ _)) (by omega)).mono (by
   rintro e w' ⟨hb,⟨_,h⟩ | ⟨h,_⟩⟩
   ·exact⟨h,hb⟩
   ·omega))
  have HMd:Hid (∀V,Below w6.heap.size w6 V->Calls Tryz.prog 22 #[ac gp,.slice arv nl crv] V fun e w'=>e=.returned (.tuple #[.agg #[.slice none 0 0,.slice none 0 0,ab 0,.slice none 0 0,.slice none 0 0,.slice none 0 0],ab 10])/\Below V.heap.size V w'):=hid fun V hb=>(YA HGd.out (HPv.out V hb).1 HP5.out.2 (HPv.out V hb).2 HLt.out (HRow.out V hb) (by omega)).mono (by
   rintro e w' ⟨hb,⟨_,h⟩ | ⟨h,_⟩⟩
   ·exact⟨h,hb⟩
   ·omega)
  have h40i:((40:Int)< (nl:Int)):=by omega
  clear hnl
  go_upto_region 10 with(go_at_call 37;refine HRd.out.mono ?_;rintro e w7 ⟨rfl,hb7⟩;have HB7:=hid hb7;clear hb7 HRd)
  go_wp2_with (go_at_call 22;refine(HMd.out _ HB7.out).mono ?_;rintro e w8 ⟨rfl,hb8⟩;have HB8:=hid (HB7.out.trans (hb8.mono HB7.out.size));clear hb8 HMd)
  go_ret;exact⟨rfl,HW6.out.trans ((HB8.out.alloc HB8.out.size _).mono HW6.out.size)⟩
 ·have h40i:¬((40:Int)< (nl:Int)):=by omega
  have HRd:Hid (Calls Tryz.prog 37 #[ac gp,.slice arv nl crv] w6 fun e w'=>(∃v,e=.returned (.tuple #[v,ab (-1),ab 0])/\w'.ownsRow w6.heap.size 129 3 v S.length (AY (S.map ndM)))/\Below w6.heap.size w6 w'):=hid ((XP HGd.out (HPv.out w6 (Below.refl _ _)).1 HP5.out.2 HLt.out (HRow.out w6 (Below.refl _ _)) (by omega)).mono (by
   rintro e w' ⟨hb,⟨h,_⟩ | ⟨_,⟨S2,v,h2,h3,h4⟩ | ⟨i,_,h2,_⟩⟩⟩
   ·omega
   ·have e2:S2=S:=(h2.one (c:=[]) (c':=[]) (K7 HGd.out) H6.out.1 rfl).2
    rw[e2]at h4;exact⟨⟨v,h3,h4⟩,hb⟩
   ·exact absurd H6.out.1 (h2 S)))
  have HMd:Hid (∀V,Below w6.heap.size w6 V->Calls Tryz.prog 22 #[ac gp,.slice arv nl crv] V fun e w'=>(∃a1 k1 a2 n2 k2 a3 k3 a4 k4 a5 n5 k5,e=.returned (.tuple #[.agg #[.slice a1 0 k1,.slice a2 n2 k2,ab 0,.slice a3 nl k3,.slice a4 S.length k4,.slice a5 n5 k5],ab 0])/\DI w' V.heap.size (.slice a3 nl k3) (l.map AJ)/\w'.ownsRow V.heap.size 129 3 (.slice a4 S.length k4) S.length (AY (S.map ndM)))/\Below V.heap.size V w'):=hid fun V hb=>(YA HGd.out (HPv.out V hb).1 HP5.out.2 (HPv.out V hb).2 HLt.out (HRow.out V hb) (by omega)).mono (by
   rintro e w' ⟨hb',⟨h,_⟩ | ⟨_,E,b',c,S2,ve,vc,vr,vt,vx,xs,X,h3,hM,hV⟩⟩
   ·omega
   ·obtain⟨e1,e2,e3,e4⟩:=hM.none HGd.out HLt.out H6.out.1
    subst e1;subst e2;subst e3;subst e4;obtain⟨a1,k1,rfl,_⟩:=hM.ed;obtain⟨a2,k2,rfl,_⟩:=hM.co;obtain⟨a3,k3,h5⟩:=BQ hM.wd;rw[lM,hnl]at h5;subst h5;obtain⟨a4,k4,rfl⟩:=BQ hM.nd;obtain⟨a5,k5,rfl⟩:=BQ hV.xr;exact⟨⟨a1,k1,a2,_,k2,a3,k3,a4,k4,a5,_,k5,h3,hM.wd,hM.nd⟩,hb'⟩)
  clear hnl
  go_upto_region 10 with(go_at_call 37;refine HRd.out.mono ?_;rintro e w7 ⟨⟨v7,rfl,h7⟩,hb7⟩;obtain⟨a7,c7,hv7⟩:=BQ h7;have HB7:=hid hb7;have H7:=hid h7;clear hb7 h7 HRd)
  subst hv7
  go_upto_region 13 with(go_at_call 22;refine(HMd.out _ HB7.out).mono ?_;rintro e w8 ⟨⟨a1,k1,a2,n2,k2,a3,k3,a4,k4,a5,n5,k5,rfl,h81,h82⟩,hb8⟩;have HB8:Hid (Below w7.heap.size w7 w8):=hid hb8;have H8:=hid (And.intro h81 h82);clear hb8 h81 h82 HMd)
  obtain⟨xb,hxb⟩:=qE (w8.heap.size);obtain⟨nS,hnS⟩:=qE (S.length);rw[hnS]at H6 H7 H8
  try rw[hnS]
  obtain⟨W9,hW9⟩:=qE (w8.alloc (.cells #[.slice a1 0 k1,.slice a2 n2 k2,ab 0,.slice a3 nl k3,.slice a4 nS k4,.slice a5 n5 k5] 48));have hX:W9.heap[xb]?=some (.cells #[.slice a1 0 k1,.slice a2 n2 k2,ab 0,.slice a3 nl k3,.slice a4 nS k4,.slice a5 n5 k5] 48 (0,0)):=by rw[<-hW9,<-hxb];exact World.alloc_heap_new w8 _
  have hB9:Below w8.heap.size w8 W9:=by rw[<-hW9];exact bal (Below.refl _ _)
  rw[hW9,hxb];have HB9:Hid (Below w6.heap.size w6 W9):=hid (HB7.out.trans ((HB8.out.trans (hB9.mono HB8.out.size)).mono HB7.out.size));have hS1:nS<=100000:=by have:=H6.out.2.2.1;omega
  have hnS2:(S.map ndM).length=nS:=by rw[lM,hnS]
  have o1:W9.ownsRow w6.heap.size 129 3 (.slice a7 nS c7) nS (AY (S.map ndM)):=J9 H7.out (HB8.out.trans (hB9.mono HB8.out.size));have o2:W9.ownsRow w5.heap.size 129 3 (.slice atv nS ctv) nS (AY (S.map ndM)):=J9 H6.out.2.2.2.2.1 HB9.out;have o3:W9.ownsRow w7.heap.size 129 3 (.slice a4 nS k4) nS (AY (S.map ndM)):=J9 H8.out.2 hB9;have o4:DI W9 w7.heap.size (.slice a3 nl k3) (l.map AJ):=J9 H8.out.1 hB9;have o5:DI W9 w5.heap.size (.slice arv nl crv) (l.map AJ):=by rw[<-HNl.out];exact J9 H6.out.2.2.2.1 HB9.out
  have CT:∀(q B1 B2:Nat) (v1 v2:Value),W9.ownsRow B1 129 3 v1 nS (AY (S.map ndM))->W9.ownsRow B2 129 3 v2 nS (AY (S.map ndM))->Calls Tryz.prog 38 #[v1,v2] (W9.drewN q) fun e w'=>e=.returned (.bool true)/\∃q',w'=W9.drewN q':=fun q B1 B2 v1 v2 k1 k2=>
   (bX (W9.drewN q) v1 v2 (S.map ndM) B1 B2 (by rw[hnS2];exact J9 k1 (below_drewN (Below.refl _ _) q)) (by rw[hnS2];exact J9 k2 (below_drewN (Below.refl _ _) q)) (by omega)).mono (by
    rintro e w' ⟨h,q',rfl⟩;exact⟨h,_,World.drewN_drewN ..⟩)
  have C1:=hid (CT 0 _ _ _ _ o1 o2);have C2:Hid (∀q,_):=hid (fun q=>CT q _ _ _ _ o3 o2);have C3:Hid (∀q,Calls Tryz.prog 32 #[.slice a3 nl k3,.slice arv nl crv] (W9.drewN q) fun e w'=>e=.returned (.bool true)/\∃q',w'=W9.drewN q'):=hid fun q=>(YW (W9.drewN q) _ _ (l.map AJ) _ _ (DI.below o4 (below_drewN (Below.refl _ _) q)) (DI.below o5 (below_drewN (Below.refl _ _) q)) (by rw[lM];have:=HNl.out;omega)).mono (by
    rintro e w' ⟨h,q',rfl⟩;exact⟨h,_,World.drewN_drewN ..⟩)
  have x0:W9.cell? (af xb 0)=some (.slice a1 0 k1):=(A0 hX).trans rfl;have x2:W9.cell? (af xb 2)=some (ab 0):=(A0 hX).trans rfl;have x3:W9.cell? (af xb 3)=some (.slice a3 nl k3):=(A0 hX).trans rfl;have x4:W9.cell? (af xb 4)=some (.slice a4 nS k4):=(A0 hX).trans rfl;clear o1 o2 o3 o4 o5 CT hX hB9 hW9 hxb hnS hnS2
  go_upto_region 14 with(go_at_call 38;refine C1.out.mono ?_;rintro e w' ⟨rfl,q1,rfl⟩)
  go_upto_region 15 with(go_at_call 38;refine(C2.out _).mono ?_;rintro e w' ⟨rfl,q2,rfl⟩)
  go_upto_region 16 with(go_at_call 32;refine(C3.out _).mono ?_;rintro e w' ⟨rfl,q3,rfl⟩)
  go_wp2;go_ret;exact⟨rfl,below_drewN (HW6.out.trans (HB9.out.mono HW6.out.size)) _⟩
end Go.Proofs.YtjjggdcnpndgjaaGreatDoor
