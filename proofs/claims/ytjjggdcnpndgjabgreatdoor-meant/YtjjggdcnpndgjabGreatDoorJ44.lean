import Derived.Test.YtjjggdcnpndgjabGreatDoorJ43
set_option linter.unusedSimpArgs false
set_option maxHeartbeats 16000000
set_option maxRecDepth 100000
namespace Go.Proofs.YtjjggdcnpndgjabGreatDoor
open Go.RowKit Go.Shelf
variable {B B':Nat}{E:List EdP}{T:Tab}{b l:List Nat}{m:Mk}{v:Value}{w:World}
def jP (N:NG) (row:List Nat) (e:EdP):Prop:=(e.kind=1/\e.old=N.nT/\e.new<N.nT/\e.cost=N.put e.new)\/(e.kind=2/\row[e.loc]?=some e.old/\e.new=N.nT/\e.cost=N.drop e.old)\/(e.kind=3/\row[e.loc]?=some e.old/\e.new<N.nT/\e.cost=N.swp e.old e.new/\e.cost≠0)
theorem Run.fit {N:NG}{row:List Nat}{i j:Nat}{c:Nat} (h:Run N row i E j b c):∀e∈E,jP N row e:=by
 induction h with
 |done i=>intro e he;cases he
 |keep hx _ ih=>exact ih
 |put ht _ ih=>
  intro e he
  rcases List.mem_cons.1 he with rfl |he
  ·exact .inl ⟨rfl,rfl,ht,rfl⟩
  ·exact ih e he
 |drop hx _ ih=>
  intro e he
  rcases List.mem_cons.1 he with rfl |he
  ·exact .inr (.inl ⟨rfl,hx,rfl,rfl⟩)
  ·exact ih e he
 |swap hx hu hn hs _ ih=>
  intro e he
  rcases List.mem_cons.1 he with rfl |he
  ·exact .inr (.inr ⟨rfl,hx,hu,rfl,hs⟩)
  ·exact ih e he
def wdM (m:Mk) (t:Nat):ByteArray:=if t=m.puts.length then ByteArray.empty else A7 t
def KM (w:World) (B:Nat) (v:Value) (m:Mk) (E:List EdP):Prop:=∃ad cap,v=.slice ad E.length cap/\E.length<=cap/\(0<E.length->∃g,ad=some (af g 0)/\g<B/\∀(k:Nat) (e:EdP),E[k]?=some e->w.cell? (af g (k*4))=some (ab e.loc)/\w.cell? (af g (k*4+1))=some (ab e.kind)/\w.cell? (af g (k*4+2))=some (.string (wdM m e.old))/\w.cell? (af g (k*4+3))=some (.string (wdM m e.new)))
def LK (w:World) (B:Nat) (v:Value) (E:List EdP):Prop:=∃ad cap,v=.slice ad E.length cap/\E.length<=cap/\(0<E.length->∃g,ad=some (af g 0)/\g<B/\∀(k:Nat) (e:EdP),E[k]?=some e->w.cell? (af g k)=some (ab e.cost))
theorem mJ (g off n:Nat):((af g off):Addr).add n=(af g (off+n)):=by
 by_cases h:n=0 <;> simp[Addr.add,h]
theorem Q3 (a b:List ByteArray):EW (a++b)=EW a++EW b:=by unfold EW;simp
theorem N0 {V V':World}{eb te e sz n:Nat}{cs:Array Value}{u:Value}{xs:List Value} (hb:V.heap[eb]?=some (.cells cs te (0,0))) (hne:e≠te) (hr:V.ownsRow B e sz u n xs) (hg:V.grownBy V' u.ownBlock) (hw:Below B w V) (hB:B<=w.heap.size):
  V'.heap[eb]?=some (.cells cs te (0,0))/\Below B w V':=by
 have hk:A1 V V' u.ownBlock.toList:=(A1.refl V u.ownBlock.toList).grown hg (fun q hq=>.inl y13Z);refine⟨(hk.block eb (lt_of_block hb) (fun hm=>A6 hr hb hne y59Z)).trans hb,hw.trans (hk.below (by have:=hw.size;omega) (fun q hq=>(hr.lt q (by simpa using hq)).1))⟩
theorem NA {V:World}{adl AD:Option Addr}{nl cpl here loc:Nat} (hnl:l.length=nl) (hc:nl<=cpl) (h1:here<=loc) (h2:loc<=nl) (hb:Below w.heap.size w V)
  (hlc:0<nl->∃g off,adl=some (af g off)/\g<w.heap.size/\∀(i:Nat) (x:ByteArray),(l.map A7)[i]?=some x->w.cell? (af g (off+i))=some (.string x))
  (hAD:(if cpl=here then adl else adl.map fun x=>x.add here)=AD):
  (AD=none->loc - here=0)/\((((l.drop here).take (loc - here)).map A7).map Value.string).length=(loc - here)*1/\(∀ad,AD=some ad->∀(j:Nat) u,((((l.drop here).take (loc - here)).map A7).map Value.string)[j]?=some u->V.cell? (ad.add j)=some u)/\∀u∈(((l.drop here).take (loc - here)).map A7).map Value.string,u.oneCell'=true:=by
 refine⟨fun hn=>?_,?_,fun ad had j u hu=>?_,fun u hu=>?_⟩
 ·by_cases h0:0<nl
  ·obtain⟨g,off,rfl,_⟩:=hlc h0
   rw[<-hAD]at hn;split at hn <;> cases hn
  ·omega
 ·simp only[lM,List.length_take,List.length_drop,hnl];omega
 ·have hlen:=(gS_.1 hu).1
  simp only[lM,List.length_take,List.length_drop,hnl]at hlen;obtain⟨g,off,rfl,hg,hcell⟩:=hlc (by omega);rw[if_neg (by omega)]at hAD;have e1:((af g off):Addr).add here=(af g (off+here)):=by simp[Addr.add]
  rw[Option.map_some,e1]at hAD;rw[<-hAD]at had;injection had with had
  subst had;have e2:((af g (off+here)):Addr).add j=(af g (off+(here+j))):=by simp[Addr.add,Nat.add_assoc]
  rw[e2];rw[gM,gM,List.getElem?_take,if_pos (by omega),List.getElem?_drop]at hu;cases ht:l[here+j]? with
  |none=>rw[ht]at hu;cases hu
  |some t=>
   rw[ht]at hu;injection hu with hu
   subst hu;exact(hb.cell y12Z).trans (hcell (here+j) (A7 t) (by rw[gM,ht];rfl))
 ·obtain⟨x,_,rfl⟩:=List.mem_map.1 hu
  rfl
theorem eI  (hm:m.Good) (w:World) (mb:Nat) (lv ev cv:Value) (l:List Nat) (E:List EdP) (j:Nat) (b:List Nat) (c:Nat) (hM:MkV w w.heap.size mb m) (hl:∀t∈l,t<m.puts.length) (hlv:RwS w w.heap.size lv (l.map A7)) (hl1:l.length<=1000) (hb1:b.length<=100000) (hc1:c<=100000) (hE1:E.length<=100000)
  (hev:KM w w.heap.size ev m E) (hcv:LK w w.heap.size cv E) (hR:Run (ngM m) l 0 E j b c) (hj:j<=l.length):
  Calls Tryz.prog 9 #[ac mb,lv,ev,cv] w fun e w'=>∃rv,e=.returned (.tuple #[rv,ab c,.bool true])/\DR w' w.heap.size rv ((b++l.drop j).map A7)/\Below w.heap.size w w':=by
 obtain⟨iS,hiS,hzS0,hzS1,hzS2⟩:=info_parts Tryz.infoG9;obtain⟨gR,cR,gP,cP,gD,cD,gS,cS,hC⟩:=VL hM;obtain⟨nT,hnT⟩:=qE (m.puts.length);have hT6:=hm.t6;have hT2:=hm.t2;have HC:=hid hC;obtain⟨nl,hnl⟩:=qE (l.length);obtain⟨nE,hnE⟩:=qE (E.length);obtain⟨adl,cpl,rfl,hcl,hlc⟩:=hlv;obtain⟨ade,cpe,rfl,hce,hec⟩:=hev;obtain⟨adc,cpc,rfl,hcc,hccc⟩:=hcv;rw[lM]at hcl hlc ⊢;rw[hnl]at hcl hlc hl1 hj ⊢;rw[hnE]at hce hec hcc hccc hE1 ⊢;have HLC:=hid hlc;have HEC:=hid hec;have HCC:=hid hccc;have HFit:Hid (∀e∈E,jP (ngM m) l e):=hid hR.fit;have HR:=hid hR;have HL:=hid (And.intro hl (And.intro hnl (And.intro hnE hnT)));rw[hnT]at hT6 hT2;have hEE:((nE:Int)==(nE:Int))=true:=by simp
 clear hM hC hl hlc hec hccc hR hnl hnE hnT
 go_enter Tryz.func9,Tryz.ntmps9
 go_wp2
 go_loopw [11,12,13,14] (fun u sm h q wr=>∃(k here sum crest:Nat) (b0 brest:List Nat),k<=nE/\q=ab k/\h=ab here/\sm=ab sum/\here<=nl/\Hid (Run (ngM m) l here (E.drop k) j brest crest)/\Hid (b=b0++brest)/\sum+crest=c/\Hid (DR wr w.heap.size u (b0.map A7))/\Hid (Below w.heap.size w wr)) (fun _ _ _ q _=>nE - (intOf q).toNat)
 case atStart=>exact⟨0,0,0,c,[],b,Nat.zero_le _,rfl,rfl,rfl,Nat.zero_le _,HR,hid rfl,by omega,hid (World.ownsRow_nil _ _ _ _),hid (Below.refl _ _)⟩
 case round=>
  obtain⟨k,here,sum,crest,b0,brest,hk,rfl,rfl,rfl,hh,hRn,hb,hsc,hrow,hbr⟩:=hrel;obtain⟨W,rfl⟩:=qF (wr)
  by_cases hlt:k<nE
  ·obtain⟨ed,hed⟩:∃ed,E[k]?=some ed:=⟨_,gE (by rw[HL.out.2.2.1];exact hlt)⟩
   obtain⟨ge,rfl,hge,hgc⟩:=HEC.out (by omega);obtain⟨gc,rfl,hgcc,hgcs⟩:=HCC.out (by omega);have hWl:=hbr.out.size;obtain⟨x0,x1,x2,x3⟩:=hgc k ed hed;have x4:=hgcs k ed hed;replace x0:=(hbr.out.cell (by exact hge)).trans x0;replace x1:=(hbr.out.cell (by exact hge)).trans x1;replace x2:=(hbr.out.cell (by exact hge)).trans x2;replace x3:=(hbr.out.cell (by exact hge)).trans x3;have HX4:Hid (∀V,Below w.heap.size w V->V.cell? (af gc k)=some (ab ed.cost)):=hid fun V hb=>(hb.cell (by exact hgcc)).trans x4
   have hdr:E.drop k=ed::E.drop (k+1):=by
    obtain⟨h1,h2⟩:=gS_.1 hed;rw[List.drop_eq_getElem_cons h1,h2]
   obtain⟨a',nw,b',c',y1,y2,y3,y4,y5,y6,_⟩:=hRn.out.next hdr;have hfit:=HFit.out ed (mG hed);clear x4 hgc hgcs hdr
   go_upto_region 10 with fail
   obtain⟨loc,kd,old,new,cost⟩:=ed;simp only at x0 x1 x2 x3 HX4 hfit y1 y2 y3 y5 ⊢;have hr:=hrow.out;unfold DR at hr;rw[lM]at hr;obtain⟨n0,hn0⟩:=qE (b0.length);rw[hn0]at hr;obtain⟨au,cu,rfl,hcu⟩:=DE hr;have hbl:b0.length+brest.length<=100000:=by have h1:=hb1;rw[hb.out,lA]at h1;exact h1
   have hbr3:brest.length=loc - here+nw.length+b'.length:=by
    rw[y3,lA,lA,List.length_take,List.length_drop,HL.out.2.1,Nat.min_eq_left (by omega)]
   obtain⟨W1,hW1⟩:=qE (W.alloc (.cells #[ab loc,ab kd,.string (wdM m old),.string (wdM m new)] 42));obtain⟨eb,heb⟩:=qE (W.heap.size);have hS1:W1.heap[eb]?=some (.cells #[ab loc,ab kd,.string (wdM m old),.string (wdM m new)] 42 (0,0)):=by rw[<-hW1,<-heb];exact World.alloc_heap_new W _
   have hB1:Below w.heap.size w W1:=by rw[<-hW1];exact hbr.out.trans (((Below.refl W.heap.size W).alloc (lR_ _) _).mono hWl)
   have hr1:W1.ownsRow w.heap.size 9 1 (.slice au n0 cu) n0 (EW (b0.map A7)):=by rw[<-hW1];exact hr.alloc _
   rw[hW1,heb];have HB0:Hid (b0.length=n0/\n0+brest.length<=100000/\brest.length=loc - here+nw.length+b'.length):=hid ⟨hn0,by omega,hbr3⟩;have HN:=hid (And.intro hb.out (And.intro y3 (And.intro y4 y5)));have H1:=hid (And.intro hS1 (And.intro hB1 hr1));have hll:here<=nl/\loc<=nl:=by omega
   have hni1:¬((loc:Int)< (here:Int)):=by omega
   have hni2:¬((nl:Int)< (loc:Int)):=by omega
   clear hW1 heb hr hn0 hrow hRn hb hbl hbr3 y3 y4 y5 hbr hWl x0 x1 x2 x3 hb1;have k0:W1.cell? (af eb 0)=some (ab loc):=(A0 hS1).trans rfl;have k1:W1.cell? (af eb 1)=some (ab kd):=(A0 hS1).trans rfl;have k2:W1.cell? (af eb 2)=some (.string (wdM m old)):=(A0 hS1).trans rfl;have k3:W1.cell? (af eb 3)=some (.string (wdM m new)):=(A0 hS1).trans rfl
   rcases hfit with⟨z1,z2,z3,z4⟩ | ⟨z1,z2,z3,z4⟩ | ⟨z1,z2,z3,z4,z5⟩
   ·simp only at z1 z2 z3 z4
    subst z1;obtain⟨y7,y8⟩:loc=a'/\nw=[new]:=by
     rcases y6 with⟨_,_,_,h1,h2⟩ | ⟨h,_⟩ | ⟨h,_⟩
     ·exact⟨h1.symm,h2⟩
     ·have h:(1:Nat)=2:=h;omega
     ·have h:(1:Nat)=3:=h;omega
    subst y7;subst y8;have hw2:wdM m old=ByteArray.empty:=by unfold wdM;exact if_pos z2
    rw[hw2]at k2
    go_quiet (fail)
    obtain⟨W2,hW2⟩:=qE (W1.drewN nq);have h12:W2.heap=W1.heap:=by rw[<-hW2];rfl
    have hS2:=H1.out.1;rw[<-h12]at hS2;have hB2:Below w.heap.size w W2:=by rw[<-hW2];exact below_drewN H1.out.2.1 _
    have hr2:W2.ownsRow w.heap.size 9 1 (.slice au n0 cu) n0 (EW (b0.map A7)):=by rw[<-hW2];exact H1.out.2.2
    rw[hW2];clear hW2 h12 k0 k1 k2 k3;have k0:W2.cell? (af eb 0)=some (ab loc):=(A0 hS2).trans rfl;have H2:=hid (And.intro hS2 (And.intro hB2 hr2));clear hS2 hB2 hr2;obtain⟨AD,hAD⟩:=qE ((if cpl=here then adl else adl.map fun x=>x.add here));obtain⟨hno,hl,hnews,h1⟩:=NA (loc:=loc) HL.out.2.1 hcl y1 hll.2 H2.out.2.1 HLC.out hAD;obtain⟨PC,hPC⟩:=qE ((((l.drop here).take (loc - here)).map A7).map Value.string);rw[hPC]at hl hnews h1;have HPC:=hid hPC;have HP:=hid (And.intro hno (And.intro hl (And.intro hnews h1)));have hbd:=HB0.out;clear hno hl hnews h1 hPC
    go_wp2_with (at_builtin;refine FE rfl _ _ 30 rfl w.heap.size 9 iS (.string ByteArray.empty) 1 16 Tryz.underlying30 hiS hzS0 hzS1 hzS2 rfl (by decide) _ _ _ rfl H2.out.2.2 AD (loc - here) (cpl - here) PC rfl HP.out.1 HP.out.2.1 HP.out.2.2.1 HP.out.2.2.2 ?h63 ?hby ?hba ?_)
    case h63=>unfold maxLen;omega
    case hby=>omega
    case hba=>have:=H2.out.2.1.size;omega
    intro v3 W3 hown3 hgrow3;obtain⟨hS3,hB3⟩:=N0 H2.out.1 (by decide) H2.out.2.2 hgrow3 H2.out.2.1 (lR_ _);obtain⟨a3,c3,rfl,hc3⟩:=DE hown3;have k0:W3.cell? (af eb 0)=some (ab loc):=(A0 hS3).trans rfl;have k1:W3.cell? (af eb 1)=some (ab (1:Nat)):=(A0 hS3).trans rfl;have hw3:wdM m new=A7 new:=by unfold wdM;exact if_neg y18Z
    have k3:W3.cell? (af eb 3)=some (.string (A7 new)):=by rw[<-hw3];exact(A0 hS3).trans rfl
    have hn3:new<nT:=by rw[<-HL.out.2.2.2];exact z3
    have hC3:=(HC.out W3 hB3).c1;rw[HL.out.2.2.2]at hC3;have H3:=hid (And.intro hS3 (And.intro hB3 hown3));have CN:Hid (∀n,Calls Tryz.prog 20 #[.string (A7 new)] (W3.drewN n) fun e w'=>e=.returned (ab new)/\w'=W3.drewN n):=hid fun n=>(JJ new (by omega) _).mono fun _ _ h=>⟨h.1,h.2.symm⟩
    have hsz:(A7 new).size=1:=rfl;have hg1:¬((new:Int)<0):=by omega
    have hg2:¬((nT:Int)<=(new:Int)):=by omega
    clear hS3 hB3 hown3 hgrow3 hc3 hw3
    go_upto_region 14 with fail
    go_quiet ((go_at_call 20;exact(CN.out _).mono fun _ _ h=>⟨h.1,_,h.2⟩))
    obtain⟨W4,hW4⟩:=qE (W3.drewN nq);have h34:W4.heap=W3.heap:=by rw[<-hW4];rfl
    have hS4:=H3.out.1;rw[<-h34]at hS4;have hB4:Below w.heap.size w W4:=by rw[<-hW4];exact below_drewN H3.out.2.1 _
    have hr4:W4.ownsRow w.heap.size 9 1 (.slice a3 (n0+(loc - here)) c3) (n0+(loc - here)) (EW (b0.map A7)++PC):=by rw[<-hW4];exact H3.out.2.2
    rw[hW4];clear hW4 h34 k0 k1 k3 hAD;have H4:=hid (And.intro hS4 (And.intro hB4 hr4));have k1:W4.cell? (af eb 1)=some (ab (1:Nat)):=(A0 hS4).trans rfl;have hw3:wdM m new=A7 new:=by unfold wdM;exact if_neg y18Z
    have k3:W4.cell? (af eb 3)=some (.string (A7 new)):=by rw[<-hw3];exact(A0 hS4).trans rfl
    have hC1:=(HC.out W4 hB4).c1;rw[HL.out.2.2.2]at hC1;have hC4:=(HC.out W4 hB4).puts new z3;obtain⟨cs1,hcs1⟩:=qE (m.puts.getD new 0);rw[hcs1]at hC4;have hcst:cost=cs1:=by rw[z4,<-hcs1];rfl
    have hcl1:1<=cs1/\cs1<=9:=by rw[<-hcs1];exact hm.put_at z3
    have CN4:Hid (∀n,Calls Tryz.prog 20 #[.string (A7 new)] (W4.drewN n) fun e w'=>e=.returned (ab new)/\w'=W4.drewN n):=hid fun n=>(JJ new (by omega) _).mono fun _ _ h=>⟨h.1,h.2.symm⟩
    clear hS4 hB4 hr4 hw3 hC3
    go_upto_region 19 with fail
    go_quiet ((go_at_call 20;exact(CN4.out _).mono fun _ _ h=>⟨h.1,_,h.2⟩))
    obtain⟨W5,hW5⟩:=qE (W4.drewN nq);have h45:W5.heap=W4.heap:=by rw[<-hW5];rfl
    have hS5:=H4.out.1;rw[<-h45]at hS5;have hB5:Below w.heap.size w W5:=by rw[<-hW5];exact below_drewN H4.out.2.1 _
    have hr5:W5.ownsRow w.heap.size 9 1 (.slice a3 (n0+(loc - here)) c3) (n0+(loc - here)) (EW (b0.map A7)++PC):=by rw[<-hW5];exact H4.out.2.2
    rw[hW5];clear hW5 h45 k1 k3 hC1 hC4;have H5:=hid (And.intro hS5 (And.intro hB5 hr5));have k1:W5.cell? (af eb 1)=some (ab (1:Nat)):=(A0 hS5).trans rfl;have hw3:wdM m new=A7 new:=by unfold wdM;exact if_neg y18Z
    have k3:W5.cell? (af eb 3)=some (.string (A7 new)):=by rw[<-hw3];exact(A0 hS5).trans rfl
    have k4:=HX4.out W5 hB5;rw[hcst]at k4;have hnz:((cs1:Int)==0)=false:=by simp;omega
    have hcc1:((cs1:Int)==(cs1:Int))=true:=by simp
    have hsm:sum+cs1<=c:=by have h1:=HN.out.2.2.2;have h2:crest=cost+c':=h1;omega
    have hbd1:n0+(loc - here)+1<=100000:=by
     have h1:=hbd.2.1;have h2:=hbd.2.2;simp only[List.length_singleton]at h2;omega
    have q3:(W5.alloc (.cells #[.string (A7 new)] 9)).cell? (af eb 1)=some (ab (1:Nat)):=A2 _ k1;clear hS5 hB5 hr5 hw3
    go_wp2_with (at_builtin;refine wpList_append_lies _ rfl _ _ 30 rfl w.heap.size 9 iS (.string ByteArray.empty) 1 16 Tryz.underlying30 hiS hzS0 hzS1 hzS2 rfl (by decide) _ _ _ rfl (H5.out.2.2.alloc _) (af W5.heap.size 0) 1 1 [.string (A7 new)] rfl rfl (World.news_of_block (heap_alloc_new W5 _)) ?c2 (lR_ 1) ?c3 ?c4 ?c5 _ rfl ?_)
    case c2=>rfl
    case c3=>unfold maxLen;omega
    case c4=>omega
    case c5=>have:=H5.out.2.1.size;simp;omega
    intro g6 cap6 W6 hown6 hgrow6 hat6 hlt6;obtain⟨hS6,hB6⟩:=N0 ((Below.heap_alloc _ _ _ (lt_of_block H5.out.1)).trans H5.out.1) (by decide) (H5.out.2.2.alloc (.cells #[.string (A7 new)] 9)) hgrow6 (H5.out.2.1.trans (((Below.refl W5.heap.size W5).alloc (lR_ _) _).mono H5.out.2.1.size)) (lR_ _);have k1:W6.cell? (af eb 1)=some (ab (1:Nat)):=(A0 hS6).trans rfl;have H6:=hid (And.intro hB6 hown6);clear hS6 hB6 hown6 hgrow6 hat6 hlt6 q3;go_wp2
    go_roundw
    case rel=>exact⟨k+1,loc,sum+cs1,c',b0++(l.drop here).take (loc - here)++ [new],b',by omega,by go_num,rfl,by go_num,by omega,hid HN.out.2.2.1,hid (by
     have h1:=HN.out.1;have h2:=HN.out.2.1;rw[h1,h2,aA,aA,aA]),by have h1:=HN.out.2.2.2;have h2:crest=cost+c':=h1;omega,hid (by
     unfold DR;have h1:=H6.out.2;rw[<-HPC.out]at h1;simp only[List.map_append,lA,lM,List.length_take,List.length_drop,HL.out.2.1,HB0.out.1,Q3];rw[Nat.min_eq_left (by omega),aA];exact h1),hid H6.out.1⟩
    case measure=>simp[intOf];omega
   ·simp only at z1 z2 z3 z4
    subst z1;obtain⟨y7,y8⟩:loc+1=a'/\nw=[]:=by
     rcases y6 with⟨h,_⟩ | ⟨_,_,_,h1,h2⟩ | ⟨h,_⟩
     ·have h:(2:Nat)=1:=h;omega
     ·exact⟨h1.symm,h2⟩
     ·have h:(2:Nat)=3:=h;omega
    subst y7;subst y8;have hlnl:loc<nl:=by rw[<-HL.out.2.1];exact(gS_.1 z2).1
    have ho3:old<m.puts.length:=HL.out.1 old (mG z2);have ho4:old<nT:=by rw[<-HL.out.2.2.2];exact ho3
    have hw2:wdM m old=A7 old:=by unfold wdM;exact if_neg (by omega)
    rw[hw2]at k2;obtain⟨gl,ofl,hadl,hgl,hlcell⟩:=HLC.out (by omega);have hlc0:W1.cell? (af gl (ofl+loc))=some (.string (A7 old)):=(H1.out.2.1.cell (by exact hgl)).trans (hlcell loc (A7 old) (by rw[gM,z2];rfl));have hLLC:=hid HLC.out;subst hadl;have hlne:((loc:Int)==(nl:Int))=false:=by simp;omega
    have hoo:((A7 old).toList==(A7 old).toList)=true:=by simp
    clear hlcell hgl
    go_quiet (fail)
    obtain⟨W2,hW2⟩:=qE (W1.drewN nq);have h12:W2.heap=W1.heap:=by rw[<-hW2];rfl
    have hS2:=H1.out.1;rw[<-h12]at hS2;have hB2:Below w.heap.size w W2:=by rw[<-hW2];exact below_drewN H1.out.2.1 _
    have hr2:W2.ownsRow w.heap.size 9 1 (.slice au n0 cu) n0 (EW (b0.map A7)):=by rw[<-hW2];exact H1.out.2.2
    rw[hW2];clear hW2 h12 k0 k1 k2 k3 hlc0;have k0:W2.cell? (af eb 0)=some (ab loc):=(A0 hS2).trans rfl;have H2:=hid (And.intro hS2 (And.intro hB2 hr2));clear hS2 hB2 hr2;obtain⟨AD,hAD⟩:=qE ((if cpl=here then some ((af gl ofl):Addr)else some (af gl (ofl+here))));obtain⟨hno,hl,hnews,h1⟩:=NA (loc:=loc) HL.out.2.1 hcl y1 hll.2 H2.out.2.1 HLC.out (AD:=AD) (by rw[<-hAD,Option.map_some,mJ]);obtain⟨PC,hPC⟩:=qE ((((l.drop here).take (loc - here)).map A7).map Value.string);rw[hPC]at hl hnews h1;have HPC:=hid hPC;have HP:=hid (And.intro hno (And.intro hl (And.intro hnews h1)));have hbd:=HB0.out;clear hno hl hnews h1 hPC
    go_wp2_with (at_builtin;refine FE rfl _ _ 30 rfl w.heap.size 9 iS (.string ByteArray.empty) 1 16 Tryz.underlying30 hiS hzS0 hzS1 hzS2 rfl (by decide) _ _ _ rfl H2.out.2.2 AD (loc - here) (cpl - here) PC rfl HP.out.1 HP.out.2.1 HP.out.2.2.1 HP.out.2.2.2 ?h63 ?hby ?hba ?_)
    case h63=>unfold maxLen;omega
    case hby=>omega
    case hba=>have:=H2.out.2.1.size;omega
    intro v3 W3 hown3 hgrow3;obtain⟨hS3,hB3⟩:=N0 H2.out.1 (by decide) H2.out.2.2 hgrow3 H2.out.2.1 (lR_ _);obtain⟨a3,c3,rfl,hc3⟩:=DE hown3;have k0:W3.cell? (af eb 0)=some (ab loc):=(A0 hS3).trans rfl;have k1:W3.cell? (af eb 1)=some (ab (2:Nat)):=(A0 hS3).trans rfl;have H3:=hid (And.intro hS3 (And.intro hB3 hown3));clear hS3 hB3 hown3 hgrow3 hc3
    go_upto_region 14 with fail
    go_quiet (fail)
    obtain⟨W4,hW4⟩:=qE (W3.drewN nq);have h34:W4.heap=W3.heap:=by rw[<-hW4];rfl
    have hS4:=H3.out.1;rw[<-h34]at hS4;have hB4:Below w.heap.size w W4:=by rw[<-hW4];exact below_drewN H3.out.2.1 _
    have hr4:W4.ownsRow w.heap.size 9 1 (.slice a3 (n0+(loc - here)) c3) (n0+(loc - here)) (EW (b0.map A7)++PC):=by rw[<-hW4];exact H3.out.2.2
    rw[hW4];clear hW4 h34 k0 k1 hAD;have H4:=hid (And.intro hS4 (And.intro hB4 hr4));have k1:W4.cell? (af eb 1)=some (ab (2:Nat)):=(A0 hS4).trans rfl;have k2:W4.cell? (af eb 2)=some (.string (A7 old)):=by rw[<-hw2];exact(A0 hS4).trans rfl
    have hC1:=(HC.out W4 hB4).c2;rw[HL.out.2.2.2]at hC1;have hC4:=(HC.out W4 hB4).drops old ho3;obtain⟨cs1,hcs1⟩:=qE (m.drops.getD old 0);rw[hcs1]at hC4;have hcst:cost=cs1:=by rw[z4,<-hcs1];rfl
    have hcl1:1<=cs1/\cs1<=9:=by rw[<-hcs1];exact hm.drop_at ho3
    have CO4:Hid (∀n,Calls Tryz.prog 20 #[.string (A7 old)] (W4.drewN n) fun e w'=>e=.returned (ab old)/\w'=W4.drewN n):=hid fun n=>(JJ old (by omega) _).mono fun _ _ h=>⟨h.1,h.2.symm⟩
    clear hS4 hB4 hr4
    go_upto_region 21 with fail
    go_quiet ((go_at_call 20;exact(CO4.out _).mono fun _ _ h=>⟨h.1,_,h.2⟩))
    obtain⟨W5,hW5⟩:=qE (W4.drewN nq);have h45:W5.heap=W4.heap:=by rw[<-hW5];rfl
    have hS5:=H4.out.1;rw[<-h45]at hS5;have hB5:Below w.heap.size w W5:=by rw[<-hW5];exact below_drewN H4.out.2.1 _
    have hr5:W5.ownsRow w.heap.size 9 1 (.slice a3 (n0+(loc - here)) c3) (n0+(loc - here)) (EW (b0.map A7)++PC):=by rw[<-hW5];exact H4.out.2.2
    rw[hW5];clear hW5 h45 k1 k2 hC1 hC4;have H5:=hid (And.intro hS5 (And.intro hB5 hr5));have k1:W5.cell? (af eb 1)=some (ab (2:Nat)):=(A0 hS5).trans rfl;have k4:=HX4.out W5 hB5;rw[hcst]at k4;have hnz:((cs1:Int)==0)=false:=by simp;omega
    have hcc1:((cs1:Int)==(cs1:Int))=true:=by simp
    have hsm:sum+cs1<=c:=by have h1:=HN.out.2.2.2;have h2:crest=cost+c':=h1;omega
    clear hS5 hB5 hr5;go_wp2
    go_roundw
    case rel=>exact⟨k+1,loc+1,sum+cs1,c',b0++(l.drop here).take (loc - here),b',by omega,by go_num,by go_num,by go_num,by omega,hid HN.out.2.2.1,hid (by
     have h1:=HN.out.1;have h2:=HN.out.2.1;rw[h1,h2,List.append_nil,aA]),by have h1:=HN.out.2.2.2;have h2:crest=cost+c':=h1;omega,hid (by
     unfold DR;have h1:=H5.out.2.2;rw[<-HPC.out]at h1;simp only[List.map_append,lA,lM,List.length_take,List.length_drop,HL.out.2.1,HB0.out.1,Q3];rw[Nat.min_eq_left (by omega)];exact h1),hid H5.out.2.1⟩
    case measure=>simp[intOf];omega
   ·simp only at z1 z2 z3 z4 z5
    subst z1;obtain⟨y7,y8⟩:loc+1=a'/\nw=[new]:=by
     rcases y6 with⟨h,_⟩ | ⟨h,_⟩ | ⟨_,_,_,h1,h2⟩
     ·have h:(3:Nat)=1:=h;omega
     ·have h:(3:Nat)=2:=h;omega
     ·exact⟨h1.symm,h2⟩
    subst y7;subst y8;have hlnl:loc<nl:=by rw[<-HL.out.2.1];exact(gS_.1 z2).1
    have ho3:old<m.puts.length:=HL.out.1 old (mG z2);have ho4:old<nT:=by rw[<-HL.out.2.2.2];exact ho3
    have hw2:wdM m old=A7 old:=by unfold wdM;exact if_neg (by omega)
    rw[hw2]at k2;obtain⟨gl,ofl,hadl,hgl,hlcell⟩:=HLC.out (by omega);have hlc0:W1.cell? (af gl (ofl+loc))=some (.string (A7 old)):=(H1.out.2.1.cell (by exact hgl)).trans (hlcell loc (A7 old) (by rw[gM,z2];rfl));have hLLC:=hid HLC.out;subst hadl;have hlne:((loc:Int)==(nl:Int))=false:=by simp;omega
    have hoo:((A7 old).toList==(A7 old).toList)=true:=by simp
    clear hlcell hgl
    go_quiet (fail)
    obtain⟨W2,hW2⟩:=qE (W1.drewN nq);have h12:W2.heap=W1.heap:=by rw[<-hW2];rfl
    have hS2:=H1.out.1;rw[<-h12]at hS2;have hB2:Below w.heap.size w W2:=by rw[<-hW2];exact below_drewN H1.out.2.1 _
    have hr2:W2.ownsRow w.heap.size 9 1 (.slice au n0 cu) n0 (EW (b0.map A7)):=by rw[<-hW2];exact H1.out.2.2
    rw[hW2];clear hW2 h12 k0 k1 k2 k3 hlc0;have k0:W2.cell? (af eb 0)=some (ab loc):=(A0 hS2).trans rfl;have H2:=hid (And.intro hS2 (And.intro hB2 hr2));clear hS2 hB2 hr2;obtain⟨AD,hAD⟩:=qE ((if cpl=here then some ((af gl ofl):Addr)else some (af gl (ofl+here))));obtain⟨hno,hl,hnews,h1⟩:=NA (loc:=loc) HL.out.2.1 hcl y1 hll.2 H2.out.2.1 HLC.out (AD:=AD) (by rw[<-hAD,Option.map_some,mJ]);obtain⟨PC,hPC⟩:=qE ((((l.drop here).take (loc - here)).map A7).map Value.string);rw[hPC]at hl hnews h1;have HPC:=hid hPC;have HP:=hid (And.intro hno (And.intro hl (And.intro hnews h1)));have hbd:=HB0.out;clear hno hl hnews h1 hPC
    go_wp2_with (at_builtin;refine FE rfl _ _ 30 rfl w.heap.size 9 iS (.string ByteArray.empty) 1 16 Tryz.underlying30 hiS hzS0 hzS1 hzS2 rfl (by decide) _ _ _ rfl H2.out.2.2 AD (loc - here) (cpl - here) PC rfl HP.out.1 HP.out.2.1 HP.out.2.2.1 HP.out.2.2.2 ?h63 ?hby ?hba ?_)
    case h63=>unfold maxLen;omega
    case hby=>omega
    case hba=>have:=H2.out.2.1.size;omega
    intro v3 W3 hown3 hgrow3;obtain⟨hS3,hB3⟩:=N0 H2.out.1 (by decide) H2.out.2.2 hgrow3 H2.out.2.1 (lR_ _);obtain⟨a3,c3,rfl,hc3⟩:=DE hown3;have k0:W3.cell? (af eb 0)=some (ab loc):=(A0 hS3).trans rfl;have k1:W3.cell? (af eb 1)=some (ab (3:Nat)):=(A0 hS3).trans rfl;have hw3:wdM m new=A7 new:=by unfold wdM;exact if_neg y18Z
    have k3:W3.cell? (af eb 3)=some (.string (A7 new)):=by rw[<-hw3];exact(A0 hS3).trans rfl
    have hn3:new<nT:=by rw[<-HL.out.2.2.2];exact z3
    have hC3:=(HC.out W3 hB3).c1;rw[HL.out.2.2.2]at hC3;have H3:=hid (And.intro hS3 (And.intro hB3 hown3));have CN:Hid (∀n,Calls Tryz.prog 20 #[.string (A7 new)] (W3.drewN n) fun e w'=>e=.returned (ab new)/\w'=W3.drewN n):=hid fun n=>(JJ new (by omega) _).mono fun _ _ h=>⟨h.1,h.2.symm⟩
    have hsz:(A7 new).size=1:=rfl;have hg1:¬((new:Int)<0):=by omega
    have hg2:¬((nT:Int)<=(new:Int)):=by omega
    clear hS3 hB3 hown3 hgrow3 hc3 hw3
    go_upto_region 14 with fail
    go_quiet ((go_at_call 20;exact(CN.out _).mono fun _ _ h=>⟨h.1,_,h.2⟩))
    obtain⟨W4,hW4⟩:=qE (W3.drewN nq);have h34:W4.heap=W3.heap:=by rw[<-hW4];rfl
    have hS4:=H3.out.1;rw[<-h34]at hS4;have hB4:Below w.heap.size w W4:=by rw[<-hW4];exact below_drewN H3.out.2.1 _
    have hr4:W4.ownsRow w.heap.size 9 1 (.slice a3 (n0+(loc - here)) c3) (n0+(loc - here)) (EW (b0.map A7)++PC):=by rw[<-hW4];exact H3.out.2.2
    rw[hW4];clear hW4 h34 k0 k1 k3 hAD;have H4:=hid (And.intro hS4 (And.intro hB4 hr4));have k1:W4.cell? (af eb 1)=some (ab (3:Nat)):=(A0 hS4).trans rfl;have hw3:wdM m new=A7 new:=by unfold wdM;exact if_neg y18Z
    have k3:W4.cell? (af eb 3)=some (.string (A7 new)):=by rw[<-hw3];exact(A0 hS4).trans rfl
    have hC1:=(HC.out W4 hB4).c1;rw[HL.out.2.2.2]at hC1;have hc3c:=(HC.out W4 hB4).c3;rw[HL.out.2.2.2]at hc3c;obtain⟨gs,cs,e0,e1,_,e2⟩:=(HC.out W4 hB4).swaps old ho3;have e3:=e2 new z3;rw[HL.out.2.2.2]at e0 e1;have k2:W4.cell? (af eb 2)=some (.string (A7 old)):=by rw[<-hw2];exact(A0 hS4).trans rfl
    obtain⟨cs1,hcs1⟩:=qE (D0 m old new);rw[hcs1]at e3;have hcst:cost=cs1:=by rw[z4,<-hcs1];rfl
    have hcl1:1<=cs1/\cs1<=9:=⟨by omega,by rw[<-hcs1];exact hm.swp_le old new⟩;have CO4:Hid (∀n,Calls Tryz.prog 20 #[.string (A7 old)] (W4.drewN n) fun e w'=>e=.returned (ab old)/\w'=W4.drewN n):=hid fun n=>(JJ old (by omega) _).mono fun _ _ h=>⟨h.1,h.2.symm⟩
    have CN4:Hid (∀n,Calls Tryz.prog 20 #[.string (A7 new)] (W4.drewN n) fun e w'=>e=.returned (ab new)/\w'=W4.drewN n):=hid fun n=>(JJ new (by omega) _).mono fun _ _ h=>⟨h.1,h.2.symm⟩
    clear hS4 hB4 hr4 hw3 hC3 e2
    go_upto_region 23 with fail
    go_quiet ((go_at_call 20;first |exact(CO4.out _).mono fun _ _ h=>⟨h.1,_,h.2⟩ |exact(CN4.out _).mono fun _ _ h=>⟨h.1,_,h.2⟩))
    obtain⟨W5,hW5⟩:=qE (W4.drewN nq);have h45:W5.heap=W4.heap:=by rw[<-hW5];rfl
    have hS5:=H4.out.1;rw[<-h45]at hS5;have hB5:Below w.heap.size w W5:=by rw[<-hW5];exact below_drewN H4.out.2.1 _
    have hr5:W5.ownsRow w.heap.size 9 1 (.slice a3 (n0+(loc - here)) c3) (n0+(loc - here)) (EW (b0.map A7)++PC):=by rw[<-hW5];exact H4.out.2.2
    rw[hW5];clear hW5 h45 k1 k2 k3 hC1 hc3c e0 e1 e3;have H5:=hid (And.intro hS5 (And.intro hB5 hr5));have k1:W5.cell? (af eb 1)=some (ab (3:Nat)):=(A0 hS5).trans rfl;have hw3:wdM m new=A7 new:=by unfold wdM;exact if_neg y18Z
    have k3:W5.cell? (af eb 3)=some (.string (A7 new)):=by rw[<-hw3];exact(A0 hS5).trans rfl
    have k4:=HX4.out W5 hB5;rw[hcst]at k4;have hnz:((cs1:Int)==0)=false:=by simp;omega
    have hcc1:((cs1:Int)==(cs1:Int))=true:=by simp
    have hsm:sum+cs1<=c:=by have h1:=HN.out.2.2.2;have h2:crest=cost+c':=h1;omega
    have hbd1:n0+(loc - here)+1<=100000:=by
     have h1:=hbd.2.1;have h2:=hbd.2.2;simp only[List.length_singleton]at h2;omega
    have q3:(W5.alloc (.cells #[.string (A7 new)] 9)).cell? (af eb 1)=some (ab (3:Nat)):=A2 _ k1;clear hS5 hB5 hr5 hw3
    go_wp2_with (at_builtin;refine wpList_append_lies _ rfl _ _ 30 rfl w.heap.size 9 iS (.string ByteArray.empty) 1 16 Tryz.underlying30 hiS hzS0 hzS1 hzS2 rfl (by decide) _ _ _ rfl (H5.out.2.2.alloc _) (af W5.heap.size 0) 1 1 [.string (A7 new)] rfl rfl (World.news_of_block (heap_alloc_new W5 _)) ?c2 (lR_ 1) ?c3 ?c4 ?c5 _ rfl ?_)
    case c2=>rfl
    case c3=>unfold maxLen;omega
    case c4=>omega
    case c5=>have:=H5.out.2.1.size;simp;omega
    intro g6 cap6 W6 hown6 hgrow6 hat6 hlt6;obtain⟨hS6,hB6⟩:=N0 ((Below.heap_alloc _ _ _ (lt_of_block H5.out.1)).trans H5.out.1) (by decide) (H5.out.2.2.alloc (.cells #[.string (A7 new)] 9)) hgrow6 (H5.out.2.1.trans (((Below.refl W5.heap.size W5).alloc (lR_ _) _).mono H5.out.2.1.size)) (lR_ _);have k1:W6.cell? (af eb 1)=some (ab (3:Nat)):=(A0 hS6).trans rfl;have H6:=hid (And.intro hB6 hown6);clear hS6 hB6 hown6 hgrow6 hat6 hlt6 q3;go_wp2
    go_roundw
    case rel=>exact⟨k+1,loc+1,sum+cs1,c',b0++(l.drop here).take (loc - here)++ [new],b',by omega,by go_num,by go_num,by go_num,by omega,hid HN.out.2.2.1,hid (by
     have h1:=HN.out.1;have h2:=HN.out.2.1;rw[h1,h2,aA,aA,aA]),by have h1:=HN.out.2.2.2;have h2:crest=cost+c':=h1;omega,hid (by
     unfold DR;have h1:=H6.out.2;rw[<-HPC.out]at h1;simp only[List.map_append,lA,lM,List.length_take,List.length_drop,HL.out.2.1,HB0.out.1,Q3];rw[Nat.min_eq_left (by omega),aA];exact h1),hid H6.out.1⟩
    case measure=>simp[intOf];omega
  ·have hR:=hRn.out
   rw[List.drop_of_length_le (by rw[HL.out.2.2.1];omega)]at hR;have hs1:=hR.same (by rw[HL.out.2.1];exact hj) rfl;have hs2:=hR.sum;have hs3:crest=0:=hs2.symm;have hle:=hR.le;have hr:=hrow.out;unfold DR at hr;rw[lM]at hr;obtain⟨n0,hn0⟩:=qE (b0.length);rw[hn0]at hr;obtain⟨au,cu,rfl,hcu⟩:=DE hr;have hbl:n0<=100000:=by have h1:=hb1;rw[hb.out,lA]at h1;omega
   obtain⟨AD,hAD⟩:=qE ((if cpl=here then adl else adl.map fun x=>x.add here));obtain⟨hno,hl,hnews,h1⟩:=NA (loc:=nl) HL.out.2.1 hcl hh (lR_ _) hbr.out HLC.out hAD;have hPC0:(l.drop here).take (nl - here)=l.drop here:=List.take_of_length_le (by rw[List.length_drop,HL.out.2.1];omega);rw[hPC0]at hl hnews h1;obtain⟨PC,hPC⟩:=qE (((l.drop here).map A7).map Value.string);rw[hPC]at hl hnews h1;have HP:=hid (And.intro hno (And.intro hl (And.intro hnews h1)));have HR1:=hid hr;have HPC:=hid hPC;have HEN:=hid (And.intro hs1 (And.intro hs3 (And.intro hb.out hle)));have hWl:=hbr.out.size;clear hno hl hnews h1 hPC hPC0 hr hs1 hs2 hs3 hR hRn hrow hb
   go_wp2_with (at_builtin;refine FE rfl _ _ 30 rfl w.heap.size 9 iS (.string ByteArray.empty) 1 16 Tryz.underlying30 hiS hzS0 hzS1 hzS2 rfl (by decide) _ _ _ rfl HR1.out AD (nl - here) (cpl - here) PC rfl HP.out.1 HP.out.2.1 HP.out.2.2.1 HP.out.2.2.2 ?h63 ?hby ?hba ?_)
   case h63=>unfold maxLen;omega
   case hby=>omega
   case hba=>omega
   intro v3 W3 hown3 hgrow3;obtain⟨a3,c3,rfl,hc3⟩:=DE hown3;have H3:=hid (And.intro hown3 (hbr.out.grown hgrow3 hWl (fun q hq=>(HR1.out.lt q hq).1)));clear hown3 hgrow3 hAD;go_wp2
   go_ret3
   have hsc2:sum=c:=by have:=HEN.out.2.1;omega
   subst hsc2;refine⟨_,rfl,?_,H3.out.2⟩;unfold DR;have e1:b++l.drop j=b0++l.drop here:=by
    rw[HEN.out.2.2.1,HEN.out.1,aA]
    congr 1
    have h2:=HEN.out.2.2.2;have h3:l.drop j=(l.drop here).drop (j - here):=by rw[List.drop_drop];congr 1;omega
    rw[h3,List.take_append_drop]
   rw[e1];have h1:=H3.out.1;rw[<-HPC.out]at h1;simp only[List.map_append,lA,lM,List.length_drop,HL.out.2.1,hn0,Q3];exact h1
structure PmT (m:Mk) (T:Tab):Prop where
 N:T.N=ngM m
 tws:T.tws=N2 m
 rul:T.rul=GS m
 pg:T.pg=pgM m
theorem PmT.spl  (h:PmT m T) {p:Pt} (hp:FF m.puts.length m.rules.length p):IJ T p=F6 p:=by
 cases p with
 |tok t=>
  show nth T.tws t=A7 t;rw[h.tws,OP m hp]
 |nam n=>
  have hp:n<m.rules.length:=hp;show(T.pg.getD n _).1=BO n;rw[h.pg,gD_,RJ m (gE hp)];rfl
theorem mV  (hm:m.Good) {ps:List Pt}{S:List IM} (h:TrL (GS m) ps l S):(∀p∈ps,FF m.puts.length m.rules.length p)->∀nd∈S,FF m.puts.length m.rules.length nd.part:=by
 induction h with
 |nil=>intro _ nd hnd;cases hnd
 |tok _ ih=>
  intro hp nd hnd
  rcases List.mem_cons.1 hnd with rfl |h1
  ·exact hp _ (List.mem_cons_self ..)
  ·exact ih (fun p h=>hp p (List.mem_cons_of_mem _ h)) nd h1
 |nam hk _ _ ih1 ih2=>
  intro hp nd hnd
  rcases List.mem_cons.1 hnd with rfl |h1
  ·exact hp _ (List.mem_cons_self ..)
  ·rcases List.mem_append.1 h1 with h2 |h2
   ·obtain⟨rs,h3,h4⟩:=M1 hk
    exact ih1 (hm.part rs (GK h3).2 _ (mG h4)) nd h2
   ·exact ih2 (fun p h=>hp p (List.mem_cons_of_mem _ h)) nd h2
theorem rQ  (hm:m.Good):∀p∈ [Pt.nam 0],FF m.puts.length m.rules.length p:=fun p hp=>by
 rw[mS.1 hp];exact hm.n1
theorem PmT.nds  (h:PmT m T) (hm:m.Good) {S:List IM} (hS:TrL (GS m) [.nam 0] l S):S.map (N4 T)=S.map ndM:=by
 apply List.map_congr_left;intro nd hnd;unfold N4 ndM;rw[h.spl (mV hm hS (rQ hm) nd hnd)]
theorem PmT.word  (h:PmT m T) (t:Nat) (ht:t<=m.puts.length):CX T.tws T.N.nT t=wdM m t:=by
 unfold CX wdM;have e:T.N.nT=m.puts.length:=by rw[h.N];rfl
 rw[e]
 by_cases h1:t=m.puts.length
 ·rw[if_pos h1,if_pos h1]
 ·rw[if_neg h1,if_neg h1,h.tws,OP m (by omega)]
theorem PmT.wds  (h:PmT m T)  (hb:∀t∈b,t<m.puts.length):wdC T b=EW (b.map A7):=by
 unfold wdC EW;rw[List.map_map];apply List.map_congr_left;intro t ht;have:=hb t ht;rw[h.word t (by omega)];unfold wdM;rw[if_neg (by omega)];rfl
theorem qK  (hm:m.Good)  (h:Der (ngM m) [.nam 0] b):∀t∈b,t<m.puts.length:=
 fun t ht=>nY (IQ hm) h (fun t h=>by simp at h) t ht
theorem tG  (h:PmT m T) {row:List Nat} (hrow:∀t∈row,t<m.puts.length) (hE:∀e∈E,jP (ngM m) row e) (ho:w.ownsRow B 42 4 v E.length (E.flatMap (aeC T))) (hB:w.heap.size<=B'):KM w B' v m E:=by
 obtain⟨ad,cap,e,hc⟩:=DE ho;refine⟨ad,cap,e,hc,fun h0=>?_⟩;obtain⟨g,cap',e2,_,hg2,_⟩:=AX ho h0;rw[e]at e2;injection e2 with e3 _ e4
 subst e3;subst e4;subst e;refine⟨g,rfl,by omega,fun k ed hk=>?_⟩;have hk':=(gS_.1 hk).1;have hf:∀a,(aeC T a).length=4:=fun _=>rfl
 have g0:=P9 (aeC T) hf E k ed 0 hk (by omega);have g1:=P9 (aeC T) hf E k ed 1 hk (by omega);have g2:=P9 (aeC T) hf E k ed 2 hk (by omega);have g3:=P9 (aeC T) hf E k ed 3 hk (by omega);have hle:ed.old<=m.puts.length/\ed.new<=m.puts.length:=by
  have hN:(ngM m).nT=m.puts.length:=rfl
  rcases hE ed (mG hk)with⟨_,h1,h2,_⟩ | ⟨_,h1,h2,_⟩ | ⟨_,h1,h2,_⟩
  ·rw[hN]at h1 h2;omega
  ·have:=hrow _ (mG h1);rw[hN]at h2;omega
  ·have:=hrow _ (mG h1);rw[hN]at h2;omega
 refine⟨(ho.cellAt (k*4) (by omega)).trans g0,(ho.cellAt (k*4+1) (by omega)).trans g1,?_,?_⟩
 ·rw[<-h.word _ hle.1];exact(ho.cellAt (k*4+2) (by omega)).trans g2
 ·rw[<-h.word _ hle.2];exact(ho.cellAt (k*4+3) (by omega)).trans g3
theorem uN  (ho:D8 w B v (E.map (·.cost))) (hB:w.heap.size<=B'):LK w B' v E:=by
 have ho2:=ho;unfold D8 at ho;rw[lM]at ho;obtain⟨ad,cap,e,hc⟩:=DE ho;refine⟨ad,cap,e,hc,fun h0=>?_⟩;obtain⟨g,cap',e2,_,hg2,_⟩:=AX ho h0;rw[e]at e2;injection e2 with e3 _ e4
 subst e3;subst e4;subst e;refine⟨g,rfl,by omega,fun k ed hk=>ho2.at (by rw[gM,hk];rfl)⟩
theorem VZ {l:List ByteArray} (h:DR w B v l) (hB:w.heap.size<=B'):RwS w B' v l:=by
 obtain⟨ad,cap,e,hc⟩:=DE h;refine⟨ad,cap,e,hc,fun h0=>?_⟩;obtain⟨g,cap',e2,_,hg2,_⟩:=AX h h0;rw[e]at e2;injection e2 with e3 _ e4
 subst e3;subst e4;subst e;refine⟨g,0,rfl,by omega,fun i x hx=>?_⟩;have hi:=(gS_.1 hx).1;rw[Nat.zero_add];refine(World.ownsRow.cellAt h i (by omega)).trans ?_;unfold EW;rw[gM,hx];rfl
theorem PmT.row  (h:PmT m T)  (hl:∀t∈l,t<m.puts.length):l.map (nth T.tws)=l.map A7:=by
 apply List.map_congr_left;intro t ht;rw[h.tws,OP m (hl t ht)]
theorem PmT.nT  (h:PmT m T):T.N.nT=m.puts.length:=by rw[h.N];rfl
theorem oN  (hm:m.Good) {gp:Nat}{rv:Value} (h:LU T w gp) (hp:PmT m T) (hl:∀t∈l,t<m.puts.length) (hrow:RwS w w.heap.size rv (l.map A7)) (hn:l.length<=1000):
  Calls Tryz.prog 11 #[ac gp,rv] w fun e w'=>Below w.heap.size w w'/\((40<l.length/\e=.returned (.tuple #[.slice none 0 0,ab 0,ab 10]))\/(l.length<=40/\
   ((∃S v,TrL (GS m) [.nam 0] l S/\e=.returned (.tuple #[v,ab (-1),ab 0])/\w'.ownsRow w.heap.size 142 3 v S.length (BR (S.map ndM)))\/
    (∃i:Nat,KU T l i/\(∀S,¬TrL (GS m) [.nam 0] l S)/\e=.returned (.tuple #[.slice none 0 0,ab i,ab 0]))))):=by
 refine(nV h (by rw[hp.nT];exact hl) (by rw[hp.row hl];exact hrow) hn).mono ?_;rintro e w' ⟨hb,⟨h1,h2⟩ | ⟨h1,⟨S,v,h2,h3,h4⟩ | ⟨i,h2,h3⟩⟩⟩
 ·exact⟨hb,.inl ⟨h1,h2⟩⟩
 ·rw[hp.rul]at h2
  rw[hp.nds hm h2]at h4;exact⟨hb,.inr ⟨h1,.inl ⟨S,v,h2,h3,h4⟩⟩⟩
 ·refine⟨hb,.inr ⟨h1,.inr ⟨i,h2,fun S hS=>cM h2 ?_,h3⟩⟩⟩
  have:=S5 (IV m) (JE hm) (hS.der (IV m)) [];rw[hp.rul];simpa using this
structure wJ (m:Mk) (w:World) (B:Nat) (row:List Nat) (E:List EdP) (b:List Nat) (c:Nat) (S:List IM) (ve vc vr vt:Value):Prop where
 run:Run (ngM m) row 0 E row.length b c
 tree:TrL (GS m) [.nam 0] b S
 least:∀b' c',Der (ngM m) [.nam 0] b'->Al (ngM m) row b' c'->c<=c'
 ed:KM w w.heap.size ve m E
 co:LK w w.heap.size vc E
 wd:DR w B vr (b.map A7)
 nd:w.ownsRow B 142 3 vt S.length (BR (S.map ndM))
 c9:c<=9000
theorem lQ  (hm:m.Good) {gp:Nat}{rv:Value} (h:LU T w gp) (hp:PmT m T) (hT:TabAt 0 Lib.deBruijn32tab w) (hl:∀t∈l,t<m.puts.length) (hrow:RwS w w.heap.size rv (l.map A7)) (hn:l.length<=1000):
  Calls Tryz.prog 8 #[ac gp,rv] w fun e w'=>Below w.heap.size w w'/\((40<l.length/\e=.returned (.tuple #[.agg #[.slice none 0 0,.slice none 0 0,ab 0,.slice none 0 0,.slice none 0 0,.slice none 0 0],ab 10]))\/(l.length<=40/\
   ∃E b c S ve vc vr vt vx xs X,e=.returned (.tuple #[.agg #[ve,vc,ab (c:Nat),vr,vt,vx],ab 0])/\wJ m w' w.heap.size l E b c S ve vc vr vt/\M9 T w' w.heap.size l E b c S ve vc vr vt vx xs X)):=by
 have htl:0<w.heap.size:=World.block_lt_of_cell? _ _ (hT 0 (by decide));refine(kO h (fun V hb=>TabAt.below hT hb htl) (by rw[hp.nT];exact hl) (by rw[hp.row hl];exact hrow) hn (by rw[hp.N];exact tT hm) (fun h40=>by rw[hp.N];exact YN hm l hl h40)).mono ?_;rintro e w' ⟨hb,⟨h1,h2⟩ | ⟨h1,E,b,c,S,ve,vc,vr,vt,vx,xs,X,h2,hV⟩⟩
 ·exact⟨hb,.inl ⟨h1,h2⟩⟩
 ·have hrun:=hV.run
  have htree:=hV.tree;have hleast:=hV.least;rw[hp.N]at hrun hleast;rw[hp.rul]at htree;have hnd:=hV.nd;rw[hp.nds hm htree]at hnd;have hbt:=qK hm (htree.der (IV m));have hwd:=hV.wd;rw[hp.wds hbt]at hwd;refine⟨hb,.inr ⟨h1,E,b,c,S,ve,vc,vr,vt,vx,xs,X,h2,⟨hrun,htree,hleast,tG hp hl hrun.fit hV.ed (lR_ _),uN hV.co (lR_ _),?_,hnd,?_⟩,hV⟩⟩
  ·unfold DR;rw[lM];exact hwd
  ·obtain⟨b',c',h3,h4,h5⟩:=YN hm l hl h1
   exact lT_ (hleast b' c' h3 h4) h5
theorem Y3 {w':World}{e sz n:Nat}{xs:List Value} (h:w.ownsRow B e sz v n xs) (hb:Below w.heap.size w w'):w'.ownsRow B e sz v n xs:=A8 h (A1.of_below hb []) (by simp)
end Go.Proofs.YtjjggdcnpndgjabGreatDoor
