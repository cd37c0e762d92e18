import Derived.Test.YtjjggdcnpndgjabGreatDoorJ44
set_option linter.unusedSimpArgs false
set_option maxHeartbeats 8000000
set_option maxRecDepth 100000
namespace Go.Proofs.YtjjggdcnpndgjabGreatDoor
open Go.RowKit Go.Shelf
variable {B c i t:Nat}{E:List EdP}{L:List Pt}{S:List IM}{T:Tab}{b row:List Nat}{m:Mk}{v:Value}{w:World}
theorem uE  (hm:m.Good) (w:World) (mb:Nat) (v:Value) (hM:MkV w w.heap.size mb m) (hv:KT w v):
  Calls Tryz.prog 7 #[ac mb,v] w fun e w'=>∃(l:List Nat) (rv:Value),e=.returned rv/\(∀t∈l,t<m.puts.length)/\l.length<=7/\DR w' w.heap.size rv (l.map A7)/\Below w.heap.size w w':=by
 obtain⟨iS,hiS,hzS0,hzS1,hzS2⟩:=info_parts Tryz.infoG9;obtain⟨gR,cR,gP,cP,gD,cD,gS,cS,hC⟩:=VL hM;obtain⟨nT,hnT⟩:=qE (m.puts.length);have hT6:=hm.t6;have hT2:=hm.t2;have HC1:Hid (∀W,Below w.heap.size w W->W.cell? (af mb 1)=some (ae gP nT cP)):=hid fun W hb=>by rw[<-hnT];exact(hC W hb).c1
 rw[hnT]at hT6 hT2;have HRw:Hid (∀W,Below w.heap.size w W->KT W v):=hid fun W hb=>hv.below hb
 obtain⟨ad,n,cap,rfl,hnc,hn,hcell⟩:=hv;have HCE:Hid (∀j,j<n->∃g off z,ad=some (af g off)/\I64 z/\∀W,Below w.heap.size w W->W.cell? (af g (off+j))=some (ab z)):=hid fun j hj=>by
  obtain⟨g,off,h1,h2,h3⟩:=hcell (by omega);obtain⟨z,h4,h5⟩:=h3 j hj;exact⟨g,off,z,h1,h5,fun W hb=>(hb.cell (by exact h2)).trans h4⟩
 rw[hnT];clear hM hC hcell hnT HRw
 go_enter Tryz.func7,Tryz.ntmps7
 go_wp2
 go_loopw [5,6] (fun u i wr=>∃(j:Nat) (l:List Nat),j<=n/\j<=7/\i=ab j/\l.length=j/\Hid (∀t∈l,t<nT)/\Hid (DR wr w.heap.size u (l.map A7))/\Hid (Below w.heap.size w wr)) (fun _ i _=>7 - (intOf i).toNat)
 case atStart=>exact⟨0,[],Nat.zero_le _,Nat.zero_le _,rfl,rfl,hid (fun t h=>by cases h),hid (World.ownsRow_nil _ _ _ _),hid (Below.refl _ _)⟩
 case round=>
  obtain⟨j,l,hj,hj7,rfl,hlj,hlt,hrow,hbr⟩:=hrel;obtain⟨W,rfl⟩:=qF (wr)
  by_cases hjn:j<n
  ·by_cases h7:j<7
   ·obtain⟨g,off,z,rfl,hz,hzc⟩:=HCE.out j hjn
    have c1:=HC1.out W hbr.out;have cz:=hzc W hbr.out;have hr:=hrow.out;unfold DR at hr;rw[lM,hlj]at hr;obtain⟨adr,capr,rfl,hcr⟩:=DE hr;have HR:=hid hr;have hWl:=hbr.out.size;have hjn1:(j:Int)< (n:Int):=by omega
    have hj71:(j:Int)<7:=by omega
    have ogM:some mb≠(Value.slice adr j capr).ownBlock:=fun e=>by
     have h1:=(hr.lt mb e.symm).1;have h2:=World.block_lt_of_cell? _ _ (HC1.out w (Below.refl _ _));simp only at h2;omega
    have ogZ:some g≠(Value.slice adr j capr).ownBlock:=fun e=>by
     have h1:=(hr.lt g e.symm).1;have h2:=World.block_lt_of_cell? _ _ (hzc w (Below.refl _ _));simp only at h2;omega
    have hgl:=World.block_lt_of_cell? _ _ (hzc w (Below.refl _ _));have hml:=World.block_lt_of_cell? _ _ (HC1.out w (Below.refl _ _));simp only at hgl hml;clear hr hzc
    go_upto_region 5 with fail
    refine wp_region_held_drew (S:=fun w'=>w'.cell? (af mb 1)=some (ae gP nT cP)/\w'.cell? (af g (off+j))=some (ab z)) y1Z ⟨c1,cz⟩ (fun hH=>?_);refine tB 0 hH ?_;refine tB 1 hH ?_;refine tB 2 hH ?_;refine tB 3 hH ?_;refine tB 4 hH ?_;refine tB 5 hH ?_;refine tB 6 hH ?_;refine tB 7 hH ?_;refine tB 8 hH ?_;refine tB 9 hH ?_;refine tL ?_;refine tS 10 fun K hK=>?_
    refine tM ?_
    go_simp;refine(I3 z nT (by omega) hz _).mono ?_;rintro e w' ⟨⟨k,hk,rfl⟩,rfl⟩;try dsimp only
    refine hK.out _ _ ?_ fun hH=>?_
    ·exact hH
    clear hK K;refine tL ?_;refine tS 11 fun K hK=>?_
    refine tM ?_
    go_simp;refine(GD k (by omega) _).mono ?_;rintro e w' ⟨rfl,rfl⟩;try dsimp only
    refine hK.out _ _ ?_ fun hH=>?_
    ·exact hH
    clear hK K;refine tL ?_;refine tS 12 fun K hK=>?_
    refine tM ?_;go_simp;refine hK.out _ _ ?_ fun hH=>?_
    ·exact⟨A2 _ hH.1,A2 _ hH.2⟩
    clear hK K;refine tL ?_;refine tS 13 fun K hK=>?_
    refine tM ?_;refine wp_append_lies _ (.tmp 17) (.tmp 29) 30 rfl w.heap.size 9 iS (.string ByteArray.empty) 1 16 Tryz.underlying30 hiS hzS0 hzS1 hzS2 rfl (by decide) (.slice adr j capr) _ _ rfl ((HR.out.alloc (.cells #[.string (A7 k)] 9)):((W.alloc (.cells #[.string (A7 k)] 9)).drew).ownsRow _ _ _ _ _ _) (af W.heap.size 0) 1 1 [.string (A7 k)] rfl rfl (World.news_of_block (fr:=(0,0)) (heap_alloc_new W _)) y4Z (by omega) y3Z (by omega) y2Z _ rfl ?_;intro g2 cap2 w2 hown hgrow hat hlt2;refine hK.out _ _ ?_ fun hH=>?_
    ·exact⟨(hgrow.cell_far _ y2Z (by exact ogM)).trans hH.1,(hgrow.cell_far _ y2Z (by exact ogZ)).trans hH.2⟩
    clear hK K;refine tL ?_;refine tB 14 hH ?_;refine tL ?_;refine wpAnyH_done y1Z ?_ _;clear hH;go_wp2
    go_roundw
    case rel=>exact⟨j+1,l++ [k],by omega,by omega,by go_num,by simp[hlj],hid (fun t ht=>by
     rcases List.mem_append.1 ht with h |h
     ·exact hlt.out t h
     ·rw[mS.1 h];exact hk),hid (by
     unfold DR;rw[List.map_append,lA,lM,hlj,List.map_cons,List.map_nil,l7];exact hown),hid ((hbr.out.trans (((Below.refl W.heap.size W).alloc (lR_ _) (.cells #[.string (A7 k)] 9)).drew.mono hWl)).grown hgrow (by have:=hbr.out.size;simp;omega) (fun q hq=>(HR.out.lt q hq).1))⟩
    case measure=>simp[intOf];omega
   ·have hj71:¬(j:Int)<7:=by omega
    have hjn1:(j:Int)< (n:Int):=by omega
    go_wp2;go_ret;exact⟨l,_,rfl,hlt.out,by omega,hrow.out,hbr.out⟩
  ·have hjn1:¬(j:Int)< (n:Int):=by omega
   go_wp2;go_ret;exact⟨l,_,rfl,hlt.out,by omega,hrow.out,hbr.out⟩
theorem KM.below {w':World} (h:KM w B v m E) (hb:Below B w w'):KM w' B v m E:=by
 obtain⟨ad,cap,h1,h2,h3⟩:=h;refine⟨ad,cap,h1,h2,fun h0=>?_⟩;obtain⟨g,h4,h5,h6⟩:=h3 h0;refine⟨g,h4,h5,fun k e hk=>?_⟩;obtain⟨k0,k1,k2,k3⟩:=h6 k e hk;exact⟨(hb.cell y42Z).trans k0,(hb.cell y42Z).trans k1,(hb.cell y42Z).trans k2,(hb.cell y42Z).trans k3⟩
theorem KM.mono {B':Nat} (h:KM w B v m E) (hB:B<=B'):KM w B' v m E:=by
 obtain⟨ad,cap,h1,h2,h3⟩:=h;refine⟨ad,cap,h1,h2,fun h0=>?_⟩;obtain⟨g,h4,h5,h6⟩:=h3 h0;exact⟨g,h4,by omega,h6⟩
theorem LK.below {w':World} (h:LK w B v E) (hb:Below B w w'):LK w' B v E:=by
 obtain⟨ad,cap,h1,h2,h3⟩:=h;refine⟨ad,cap,h1,h2,fun h0=>?_⟩;obtain⟨g,h4,h5,h6⟩:=h3 h0;exact⟨g,h4,h5,fun k e hk=>(hb.cell y42Z).trans (h6 k e hk)⟩
theorem LK.mono {B':Nat} (h:LK w B v E) (hB:B<=B'):LK w B' v E:=by
 obtain⟨ad,cap,h1,h2,h3⟩:=h;refine⟨ad,cap,h1,h2,fun h0=>?_⟩;obtain⟨g,h4,h5,h6⟩:=h3 h0;exact⟨g,h4,by omega,h6⟩
theorem uG {rul:Nat->Nat->Option (List Pt)} (hl:Led rul) {ps:List Pt}{l:List Nat} (h:TrL rul ps l S):S.length<=2*l.length/\∀t rest,ps=.tok t::rest->S.length+1<=2*l.length:=by
 induction h with
 |nil=>exact⟨lR_ _,fun t rest h=>by cases h⟩
 |tok _ ih=>exact⟨by simp only[lC];omega,fun t rest _=>by simp only[lC];omega⟩
 |nam hk _ _ ih1 ih2=>
  obtain⟨rest,e⟩:=hl _ _ _ hk;have h1:=ih1.2 _ _ e;have h2:=ih2.1;exact⟨by simp only[lC,lA];omega,fun t rest h=>by cases h⟩
def Has (m:Mk) (l:List Nat):Prop:=∃S,TrL (GS m) [.nam 0] l S
theorem uD {l:List Nat} (h:TrL (GS m) [.nam 0] l S):0<S.length:=by
 cases h with
 |nam _ _ _=>simp
theorem Run.locs {N:NG}{j:Nat} (h:Run N row i E j b c):∀e∈E,i<=e.loc:=by
 induction h with
 |done i=>intro e he;cases he
 |keep _ _ ih=>intro e he;have:=ih e he;omega
 |put _ _ ih=>
  intro e he
  rcases List.mem_cons.1 he with rfl |h1
  ·exact lR_ _
  ·exact ih e h1
 |drop _ _ ih=>
  intro e he
  rcases List.mem_cons.1 he with rfl |h1
  ·exact lR_ _
  ·have:=ih e h1;omega
 |swap _ _ _ _ _ ih=>
  intro e he
  rcases List.mem_cons.1 he with rfl |h1
  ·exact lR_ _
  ·have:=ih e h1;omega
theorem Run.det {N:NG}{j:Nat} (h:Run N row i E j b c):∀{b':List Nat}{c':Nat},Run N row i E j b' c'->b'=b/\c'=c:=by
 induction h with
 |done i=>
  intro b' c' h';cases h' with
  |done=>exact⟨rfl,rfl⟩
  |keep _ h1=>have:=h1.le;omega
 | @keep i x j E b c hx h0 ih=>
  intro b' c' h';cases h' with
  |done=>have:=h0.le;omega
  |keep hx' h1=>
   obtain⟨e1,e2⟩:=ih h1;rw[hx]at hx';injection hx' with hx'
   exact⟨by rw[hx',e1],e2⟩
  |put _ _=>exact absurd (show _+1<=_ from h0.locs _ (List.mem_cons_self ..)) (Nat.not_succ_le_self _)
  |drop _ _=>exact absurd (show _+1<=_ from h0.locs _ (List.mem_cons_self ..)) (Nat.not_succ_le_self _)
  |swap _ _ _ _ _=>exact absurd (show _+1<=_ from h0.locs _ (List.mem_cons_self ..)) (Nat.not_succ_le_self _)
 | @put i t j E b c ht h0 ih=>
  intro b' c' h';cases h' with
  |keep _ h1=>exact absurd (show _+1<=_ from h1.locs _ (List.mem_cons_self ..)) (Nat.not_succ_le_self _)
  |put _ h1=>obtain⟨e1,e2⟩:=ih h1;exact⟨by rw[e1],by rw[e2]⟩
 | @drop i x j E b c hx h0 ih=>
  intro b' c' h';cases h' with
  |keep _ h1=>exact absurd (show _+1<=_ from h1.locs _ (List.mem_cons_self ..)) (Nat.not_succ_le_self _)
  |drop _ h1=>obtain⟨e1,e2⟩:=ih h1;exact⟨e1,by rw[e2]⟩
 | @swap i x u j E b c hx hu hn hs h0 ih=>
  intro b' c' h';cases h' with
  |keep _ h1=>exact absurd (show _+1<=_ from h1.locs _ (List.mem_cons_self ..)) (Nat.not_succ_le_self _)
  |swap _ _ _ _ h1=>obtain⟨e1,e2⟩:=ih h1;exact⟨by rw[e1],by rw[e2]⟩
theorem cI {x:Nat} (ht:t<21) (h:x.testBit t=true):t∈B1 x:=by
 unfold B1;rw[List.mem_filter];exact⟨List.mem_range.2 ht,h⟩
theorem q9  (hT:T.Ok) {s:List Pt} (hL:AY T.N L) (h:BB T.rul L t=some s):AY T.N s:=by
 match L with
 | []=>cases h
 | .tok u::s'=>
  have h:(if u=t then some s' else none)=some s:=h
  by_cases e:u=t
  ·rw[if_pos e]at h
   injection h with h
   subst h;exact⟨fun n hn=>hL.1 n (List.mem_cons_of_mem _ hn),fun n hn=>hL.2 n (List.mem_cons_of_mem _ hn)⟩
  ·rw[if_neg e]at h;cases h
 | .nam n::s'=>
  have h:(T.rul n t).map (fun rhs=>rhs.tail++s')=some s:=h;cases hr:T.rul n t with
  |none=>rw[hr]at h;cases h
  |some rhs=>
   rw[hr]at h;injection h with h
   subst h;have h2:=(hT.len n t rhs hr).2;refine⟨fun k hk=>?_,fun k hk=>?_⟩
   ·rcases List.mem_append.1 hk with h3 |h3
    ·exact h2.1 k (List.mem_of_mem_tail h3)
    ·exact hL.1 k (List.mem_cons_of_mem _ h3)
   ·rcases List.mem_append.1 hk with h3 |h3
    ·exact h2.2 k (List.mem_of_mem_tail h3)
    ·exact hL.2 k (List.mem_cons_of_mem _ h3)
theorem fZ {T:Tab} (hT:T.Ok):∀(l:List Nat) {L s:List Pt},AY T.N L->BF T.rul L l=some s->AY T.N s
 | [],L,s,hL,h=>by
  have h:some L=some s:=h;injection h with h
  subst h;exact hL
 |t::l,L,s,hL,h=>by
  have h:(BB T.rul L t).bind (fun s=>BF T.rul s l)=some s:=h;cases h1:BB T.rul L t with
  |none=>rw[h1]at h;cases h
  |some L1=>
   rw[h1]at h;exact fZ hT l (q9 hT hL h1) h
theorem tK  (hT:T.Ok) (h20:T.N.nT<=20)  (hL:AY T.N L)  (ht:t<T.N.nT):t∈B1 (J2 T L)↔(BB T.rul L t).isSome=true:=by
 match L with
 | []=>
  refine⟨fun h=>?_,fun h=>by cases h⟩;have:=LE h;simp[J2]at this
 | .tok u::s=>
  show t∈B1 (1<<<u)↔(if u=t then some s else none).isSome=true;refine⟨fun h=>?_,fun h=>?_⟩
  ·rw[if_pos (VH t h).symm];rfl
  ·by_cases e:u=t
   ·subst e
    exact cI (by omega) (by rw[Nat.one_shiftLeft,Nat.testBit_two_pow];simp)
   ·rw[if_neg e]at h;cases h
 | .nam n::s=>
  have hn:n<T.N.nN:=hL.1 n (List.mem_cons_self ..);show t∈B1 (AL T.k n)↔((T.rul n t).map (fun rhs=>rhs.tail++s)).isSome=true;rw[Option.isSome_map,<-hT.beg n t hn (by omega)];exact⟨fun h=>LE h,fun h=>cI (by omega) h⟩
theorem qU  (hb:BF T.rul [.nam 0] b=some L) (h:KU T (b++ [t]) i):i=(b++ [t]).length↔(BB T.rul L t).isSome=true:=by
 have h0:BF T.rul [.nam 0] (b++ [t])=BB T.rul L t:=by
  rw[FR,hb];show(BB T.rul L t).bind _=_;cases BB T.rul L t <;> rfl
 obtain⟨M,h1,h2⟩:=h
 rcases h2 with⟨h2,h3⟩ | ⟨h2,h3⟩
 ·refine⟨fun e=>absurd e (by omega),fun h4=>?_⟩
  exfalso;obtain⟨s,hs⟩:=Option.isSome_iff_exists.1 h4;rw[hs]at h0;have h5:BF T.rul [.nam 0] ((b++ [t]).take (i+1)++(b++ [t]).drop (i+1))=some s:=by rw[List.take_append_drop];exact h0
  obtain⟨L',h6,_⟩:=LL h5;rw[h3]at h6;cases h6
 ·refine⟨fun _=>?_,fun _=>h2⟩
  rw[h2,List.take_length,h0]at h1;rw[h1];rfl
theorem mW  (hb:BF T.rul [.nam 0] b=some L) (h:BF T.rul [.nam 0] (b++ [t])=some []):(BB T.rul L t).isSome=true:=by
 rw[FR,hb]at h;have h:(BB T.rul L t).bind (fun s=>BF T.rul s [])=some []:=h;cases h1:BB T.rul L t with
 |none=>rw[h1]at h;cases h
 |some s=>rfl
theorem rJ {a b:Nat} (ha:a<6) (hb:b<6) (h:A7 a=A7 b):a=b:=by
 have h1:a=0\/a=1\/a=2\/a=3\/a=4\/a=5:=by omega
 have h2:b=0\/b=1\/b=2\/b=3\/b=4\/b=5:=by omega
 rcases h1 with rfl |rfl |rfl |rfl |rfl |rfl <;> rcases h2 with rfl |rfl |rfl |rfl |rfl |rfl <;> first |rfl |exact absurd h (by decide)
theorem fM  (hm:m.Good) {u:Nat} (hu:u<=m.puts.length) (ht:t<m.puts.length) (h:wdM m u=A7 t):u=t:=by
 have h6:=hm.t6;unfold wdM at h
 by_cases e:u=m.puts.length
 ·rw[if_pos e]at h
  have h1:ByteArray.empty.size=(A7 t).size:=by rw[h]
  exact absurd h1 (by show ¬(0=1);omega)
 ·rw[if_neg e]at h
  exact rJ (by omega) (by omega) h
theorem pT  (hm:m.Good)  (hp:PmT m T) (hT:T.Ok)  (hL:AY T.N L)  (ht:t<m.puts.length):A7 t∈IZ T L↔(BB T.rul L t).isSome=true:=by
 have h6:=hm.t6;have hN:T.N.nT=m.puts.length:=hp.nT;rw[<-tK hT (by omega) hL (by omega)];unfold IZ G6;rw[List.mem_map];refine⟨?_,fun h=>⟨t,h,?_⟩⟩
 ·rintro⟨u,hu,e⟩
  have hle:=(eW hT (by omega) hL).2 u hu;rw[hp.word u (by omega)]at e;rw[<-fM hm (by omega) ht e];exact hu
 ·rw[hp.word t (by omega)]
  unfold wdM;rw[if_neg (by omega)]
theorem kJ  (hm:m.Good) {gp:Nat}{rv:Value} (h:LU T w gp) (hp:PmT m T) (hb:∀x∈b,x<m.puts.length) (ht:t<m.puts.length) (hL:BF T.rul [.nam 0] b=some L) (hrow:RwS w w.heap.size rv ((b++ [t]).map A7)) (hn:b.length<40):
  Calls Tryz.prog 11 #[ac gp,rv] w fun e w'=>(∃(n:Nat) (a:Option Addr) (k:Nat) (st:Int),e=.returned (.tuple #[.slice a n k,ab st,ab 0])/\(0<n\/st=((b.length+1:Nat):Int)↔(BB T.rul L t).isSome=true))/\Below w.heap.size w w':=
 (oN hm h hp (fun x hx=>by rcases List.mem_append.1 hx with h1 |h1;exact hb x h1;rw[mS.1 h1];exact ht) hrow (by rw[lA,List.length_singleton];omega)).mono (by
  have hl:(b++ [t]).length=b.length+1:=by rw[lA,List.length_singleton]
  rintro e w' ⟨hb',⟨h1,_⟩ | ⟨_,⟨S2,v,h2,h3,h4⟩ | ⟨i,hst,h2,h3⟩⟩⟩
  ·omega
  ·obtain⟨a,k,rfl⟩:=BI h4
   have h5:=S5 (IV m) (JE hm) (h2.der (IV m)) [];rw[<-hp.rul,List.append_nil]at h5;exact⟨⟨_,a,k,_,h3,⟨fun _=>mW hL h5,fun _=>.inl (uD h2)⟩⟩,hb'⟩
  ·have h4:=qU hL hst
   rw[hl]at h4;refine⟨⟨0,none,0,i,h3,⟨fun h5=>h4.1 ?_,fun h5=>.inr ?_⟩⟩,hb'⟩
   ·rcases h5 with h5 |h5
    ·omega
    ·omega
   ·have:=h4.2 h5;omega)
theorem wI  (hm:m.Good)  (hT:T.Ok) (hp:PmT m T) {ve vc vr vt vx:Value}{xs:List Value}{X:List (List ByteArray)} (hV:M9 T w B row E b c S ve vc vr vt vx xs X) {e:EdP} (hi:E[i]?=some e):
  ∃(b1:List Nat) (c1:Nat) (u:Value) (L:List Pt),Run (ngM m) row 0 (E.take i) e.loc b1 c1/\e.loc<=row.length/\c1<=c/\b1.length<=b.length/\xs[i]?=some u/\BF T.rul [.nam 0] b1=some L/\AY T.N L/\DR w B u (IZ T L)/\(e.kind≠2->(BB T.rul L e.new).isSome=true):=by
 have hil:=(gS_.1 hi).1;obtain⟨hx1,hx2⟩:=hV.xl;obtain⟨u,hu⟩:∃u,xs[i]?=some u:=⟨_,gE (by omega)⟩;obtain⟨x,hx⟩:∃x,X[i]?=some x:=⟨_,gE (by omega)⟩;obtain⟨_,h2,b1,c1,b2,c2,h3,h4,_,h6,h7⟩:=hV.run.ahead i e hi;obtain⟨b1',c1',L,h8,h9,h10⟩:=hV.ex i e x hi hx;obtain⟨rfl,rfl⟩:=h4.det h8;have htree:=hV.tree;have h11:BF T.rul [.nam 0] b=some []:=by
  rw[hp.rul]at htree ⊢;have:=S5 (IV m) (JE hm) (htree.der (IV m)) [];simpa using this
 have hps:AY T.N L:=fZ hT b1' ⟨fun n hn=>by
  have e0:Pt.nam n=Pt.nam 0:=mS.1 hn;injection e0 with e0
  rw[e0];exact hT.nN,fun n hn=>by simp at hn⟩ h9
 refine⟨b1',c1',u,L,by rw[<-hp.N];exact h8,h2,by omega,by rw[h3,lA];omega,hu,h9,hps,by rw[<-h10];exact hV.xw i u x hu hx,fun hk=>?_⟩;have h12:=h7 hk;rw[h3,FR,h9]at h11;have h11:BF T.rul L b2=some []:=h11;cases b2 with
 |nil=>cases h12
 |cons t b3=>
  injection h12 with h12
  rw[<-h12];have h11:(BB T.rul L t).bind (fun s=>BF T.rul s b3)=some []:=h11;cases h13:BB T.rul L t with
  |none=>rw[h13]at h11;cases h11
  |some s=>rfl
end Go.Proofs.YtjjggdcnpndgjabGreatDoor
