/- darnlaw.sameRow of two rows of the same words. darnlaw.factual where both tell the same. darnlaw.factual where both refuse; Tells. darnlaw.wanted. darnlaw.Tells, put together: for every text. -/
import Derived.Test.YtjjggdcnpndgjaaGreatDoorJ13
import Derived.Test.YtjjggdcnpndgjaaGreatDoorJ2
import Derived.Test.YtjjggdcnpndgjaaGreatDoorJPblt3
namespace Go.Proofs.YtjjggdcnpndgjaaGreatDoor
open Go.RowKit Go.Shelf

theorem OwnS.shape {w : World} {B : Nat} {v : Value} {l : List ByteArray} (h : OwnS w B v l) : ∃ a c, v = .slice a l.length c ∧ l.length ≤ c ∧ (0 < l.length → ∃ g, a = some ⟨g, 0, none⟩ ∧ ∀ j s, l[j]? = some s → w.cell? ⟨g, j, none⟩ = some (.string s)) := by
  have hl : (strs l).length = l.length := by unfold strs; simp
  rcases h.2 with ⟨h1, h2⟩ | ⟨g, cap, cur, h1, _, hg, hnc, _, hs, ht⟩
  · rw [h2]; exact ⟨none, 0, h1, Nat.le_refl _, fun h => by omega⟩
  · refine ⟨_, cap, h1, hnc, fun _ => ⟨g, rfl, fun j s hj => ?_⟩⟩
    have hjl := (List.getElem?_eq_some_iff.1 hj).1
    have h3 : w.ownsRow B 9 1 (.slice (some ⟨g, 0, none⟩) l.length cap) l.length (strs l) := by rw [← h1]; exact h
    rw [h3.cellAt j (by omega)]
    unfold strs
    rw [List.getElem?_map, hj]; rfl

set_option maxHeartbeats 1000000 in
set_option maxRecDepth 100000 in
theorem samerow_any (w : World) (v1 v2 : Value) (l : List ByteArray) (B1 B2 : Nat) (h1 : OwnS w B1 v1 l) (h2 : OwnS w B2 v2 l) (hn : l.length ≤ 21) :
    Calls Tryz.prog 48 #[v1, v2] w fun e w' => e = .returned (.bool true) ∧ ∃ q, w' = w.drewN q := by
  obtain ⟨a1, c1, rfl, hc1, hg1⟩ := h1.shape
  obtain ⟨a2, c2, rfl, hc2, hg2⟩ := h2.shape
  obtain ⟨n, hN⟩ : ∃ n, n = l.length := ⟨_, rfl⟩
  rw [← hN] at hn hc1 hc2 hg1 hg2 ⊢
  have HN : Hid (n = l.length) := hid hN
  have HG1 : Hid _ := hid hg1
  have HG2 : Hid _ := hid hg2
  clear hg1 hg2 hN h1 h2
  have hd : ((n : Int) == (n : Int)) = true := by simp
  go_enter Tryz.func48, Tryz.ntmps48
  go_wp2
  go_loopw [5] (fun i wr => ∃ j q : Nat, j ≤ n ∧ i = .int .i64 j ∧ wr = w.drewN q) (fun i _ => n - (intOf i).toNat)
  case atStart => exact ⟨0, 0, Nat.zero_le _, rfl, rfl⟩
  case round =>
    obtain ⟨j, q, hj, rfl, rfl⟩ := hrel
    by_cases hlt : j < n
    · obtain ⟨s, hs⟩ : ∃ s, l[j]? = some s := ⟨_, List.getElem?_eq_getElem (by rw [← HN.out]; exact hlt)⟩
      obtain ⟨g1, rfl, k1⟩ := HG1.out (by omega)
      obtain ⟨g2, rfl, k2⟩ := HG2.out (by omega)
      have p1 := k1 j s hs
      have p2 := k2 j s hs
      clear k1 k2 hs
      go_wp2
      go_quiet (fail)
      go_wp2
      go_roundw
      case rel => exact ⟨j + 1, _, by omega, by go_num, by first | rfl | exact World.drewN_drewN ..⟩
      case measure => simp [intOf]; omega
    · go_wp2
      go_ret
      exact ⟨rfl, _, rfl⟩

end Go.Proofs.YtjjggdcnpndgjaaGreatDoor

namespace Go.Proofs.YtjjggdcnpndgjaaGreatDoor
open Go.RowKit Go.Shelf

theorem FcV.shape {w : World} {B : Nat} {v : Value} {fs : List FactR} {ps : List (Value × Value)} (h : FcV w B v fs ps) : ∃ a c, v = .slice a fs.length c ∧ fs.length ≤ c ∧ (0 < fs.length → ∃ g, a = some ⟨g, 0, none⟩ ∧ g < w.heap.size ∧ ∀ (i : Nat) f, fs[i]? = some f → ∃ p, ps[i]? = some p ∧
    w.cell? ⟨g, i * 5, none⟩ = some (.string f.name) ∧ w.cell? ⟨g, i * 5 + 1, none⟩ = some (.bool f.nul) ∧ w.cell? ⟨g, i * 5 + 2, none⟩ = some p.1 ∧ w.cell? ⟨g, i * 5 + 3, none⟩ = some p.2 ∧ w.cell? ⟨g, i * 5 + 4, none⟩ = some (.int .i64 f.least)) := by
  rcases h.row.2 with ⟨h1, h2⟩ | ⟨g, cap, cur, h1, _, hg, hnc, _, hs, ht⟩
  · rw [h2]; exact ⟨none, 0, h1, Nat.le_refl _, fun h => by omega⟩
  · refine ⟨_, cap, h1, hnc, fun _ => ⟨g, rfl, lt_of_block hg, fun i f hf => ?_⟩⟩
    have hil := (List.getElem?_eq_some_iff.1 hf).1
    obtain ⟨p, hp⟩ : ∃ p, ps[i]? = some p := ⟨_, List.getElem?_eq_getElem (by rw [h.pl]; exact hil)⟩
    have hz : (fs.zip ps)[i]? = some (f, p) := by rw [List.getElem?_zip_eq_some]; exact ⟨hf, hp⟩
    have h5 := fun j hj => flat5 (fun t : FactR × (Value × Value) => [Value.string t.1.name, .bool t.1.nul, t.2.1, t.2.2, .int .i64 t.1.least]) (fun _ => rfl) (fs.zip ps) i (f, p) j hz hj
    have h3 : w.ownsRow B 81 5 (.slice (some ⟨g, 0, none⟩) fs.length cap) fs.length (fcCells fs ps) := by rw [← h1]; exact h.row
    refine ⟨p, hp, ?_, ?_, ?_, ?_, ?_⟩
    · rw [h3.cellAt _ (by omega)]; exact h5 0 (by omega)
    · rw [h3.cellAt _ (by omega)]; exact h5 1 (by omega)
    · rw [h3.cellAt _ (by omega)]; exact h5 2 (by omega)
    · rw [h3.cellAt _ (by omega)]; exact h5 3 (by omega)
    · rw [h3.cellAt _ (by omega)]; exact h5 4 (by omega)

set_option maxHeartbeats 2000000 in
set_option maxRecDepth 100000 in
theorem factual_ok (s : ByteArray) (w : World) (fs : List FactR) (nm : ByteArray) (hlen : fs.length ≤ 20) (hw : ∀ f ∈ fs, f.first.length ≤ 21 ∧ f.follow.length ≤ 21)
    (hF : Calls Tryz.prog 28 #[.string s] w fun e w' => ∃ v ps, e = .returned (.tuple #[v, .int .i64 0]) ∧ FcV w' w.heap.size v fs ps ∧ Below w.heap.size w w')
    (hW : ∀ W, Below w.heap.size w W → Calls Tryz.prog 46 #[.string s] W fun e w' => ∃ p, e = .returned (.tuple #[.pointer p, .string nm, .int .i64 0]) ∧ Below W.heap.size W w' ∧ (∀ W', Below w'.heap.size w' W' → Calls Tryz.prog 47 #[.pointer p] W' fun e w'' => ∃ v ps, e = .returned v ∧ FcV w'' W'.heap.size v fs ps ∧ Below W'.heap.size W' w'')) :
    Calls Tryz.prog 14 #[.string s] w fun e w' => ∃ v ps, e = .returned (.tuple #[v, .bool true]) ∧ FcV w' w.heap.size v fs ps ∧ Below w.heap.size w w' := by
  have HF : Hid _ := hid hF
  have HW : Hid _ := hid hW
  have HLN : Hid _ := hid hw
  obtain ⟨n, hN⟩ : ∃ n, n = fs.length := ⟨_, rfl⟩
  rw [← hN] at hlen
  have HN : Hid (n = fs.length) := hid hN
  have hdn : ((n : Int) == (n : Int)) = true := by simp
  clear hF hW hw hN
  go_enter Tryz.func14, Tryz.ntmps14
  go_wp2_with (first
    | (go_at_call 28; refine HF.out.mono ?_; rintro e w1 ⟨v1, ps1, rfl, hv1, hb1⟩; have HV1 : Hid _ := hid hv1; have HB1 : Hid _ := hid hb1; obtain ⟨a1, c1, rfl, hc1, hg1⟩ := hv1.shape; rw [← HN.out] at hc1 hg1; have HG1 : Hid _ := hid hg1; clear hb1 hg1 hv1 HF; rw [← HN.out])
    | (go_at_call 46; refine (HW.out _ HB1.out).mono ?_; rintro e w2 ⟨p, rfl, hb2, hf2⟩; have HB2 : Hid _ := hid hb2; have HF2 : Hid _ := hid (hf2 _ (Below.refl _ _)); clear hb2 hf2 HW)
    | (go_at_call 47; refine HF2.out.mono ?_; rintro e w3 ⟨v2, ps2, rfl, hv2, hb3⟩; have HV2 : Hid _ := hid hv2; have HB3 : Hid _ := hid hb3; obtain ⟨a2, c2, rfl, hc2, hg2⟩ := hv2.shape; rw [← HN.out] at hc2 hg2; have HG2 : Hid _ := hid hg2; clear hb3 hg2 hv2 HF2; rw [← HN.out]))
  go_wp2
  go_loopw [10] (fun i wr => ∃ j : Nat, j ≤ n ∧ i = .int .i64 j ∧ Hid (Below w3.heap.size w3 wr)) (fun i _ => n - (intOf i).toNat)
  case atStart => exact ⟨0, Nat.zero_le _, rfl, Below.refl _ _⟩
  case round =>
    obtain ⟨j, hj, rfl, hB⟩ := hrel
    by_cases hlt : j < n
    · obtain ⟨f, hf⟩ : ∃ f, fs[j]? = some f := ⟨_, List.getElem?_eq_getElem (by rw [← HN.out]; exact hlt)⟩
      have hB13 : Below w1.heap.size w1 wr := (HB2.out.trans (HB3.out.mono HB2.out.size)).trans (hB.out.mono (Nat.le_trans HB2.out.size HB3.out.size))
      obtain ⟨g1, rfl, hl1, k1⟩ := HG1.out (by omega)
      obtain ⟨g2, rfl, hl2, k2⟩ := HG2.out (by omega)
      obtain ⟨p1, hp1, x0, x1, x2, x3, x4⟩ := k1 j f hf
      obtain ⟨p2, hp2, y0, y1, y2, y3, y4⟩ := k2 j f hf
      have z0 := (hB13.cell (p := ⟨g1, j * 5, none⟩) (by exact hl1)).trans x0
      have z1 := (hB13.cell (p := ⟨g1, j * 5 + 1, none⟩) (by exact hl1)).trans x1
      have z2 := (hB13.cell (p := ⟨g1, j * 5 + 2, none⟩) (by exact hl1)).trans x2
      have z3 := (hB13.cell (p := ⟨g1, j * 5 + 3, none⟩) (by exact hl1)).trans x3
      have z4 := (hB13.cell (p := ⟨g1, j * 5 + 4, none⟩) (by exact hl1)).trans x4
      have t0 := (hB.out.cell (p := ⟨g2, j * 5, none⟩) (by exact hl2)).trans y0
      have t1 := (hB.out.cell (p := ⟨g2, j * 5 + 1, none⟩) (by exact hl2)).trans y1
      have t2 := (hB.out.cell (p := ⟨g2, j * 5 + 2, none⟩) (by exact hl2)).trans y2
      have t3 := (hB.out.cell (p := ⟨g2, j * 5 + 3, none⟩) (by exact hl2)).trans y3
      have t4 := (hB.out.cell (p := ⟨g2, j * 5 + 4, none⟩) (by exact hl2)).trans y4
      obtain ⟨o1, o2⟩ := (HV1.out.below hB13).wds j f p1 hf hp1
      obtain ⟨o3, o4⟩ := (HV2.out.below hB.out).wds j f p2 hf hp2
      obtain ⟨n1, n2⟩ := HLN.out f (List.mem_of_getElem? hf)
      have hdr : ∀ q, Below wr.heap.size wr (wr.drewN q) := fun q => below_draws wr q
      have CS1 : Hid (∀ q, Calls Tryz.prog 48 #[p1.1, p2.1] (wr.drewN q) fun e w' => e = .returned (.bool true) ∧ ∃ m, w' = wr.drewN m) := hid fun q => (samerow_any (wr.drewN q) p1.1 p2.1 f.first _ _ (o1.below (hdr q)) (o3.below (hdr q)) n1).mono fun e w' h => ⟨h.1, by obtain ⟨q', h2⟩ := h.2; exact ⟨_, h2.trans (World.drewN_drewN ..)⟩⟩
      have CS2 : Hid (∀ b q, Calls Tryz.prog 48 #[p1.2, p2.2] (wr.drewN (b + q)) fun e w' => e = .returned (.bool true) ∧ ∃ m, w' = wr.drewN (b + m)) := hid fun b q => (samerow_any (wr.drewN (b + q)) p1.2 p2.2 f.follow _ _ (o2.below (hdr _)) (o4.below (hdr _)) n2).mono fun e w' h => ⟨h.1, by obtain ⟨q', h2⟩ := h.2; exact ⟨q + q', h2.trans (by rw [World.drewN_drewN, Nat.add_assoc])⟩⟩
      obtain ⟨s1, d1, hs1⟩ := own_slice o1
      obtain ⟨s2, d2, hs2⟩ := own_slice o2
      obtain ⟨s3, d3, hs3⟩ := own_slice o3
      obtain ⟨s4, d4, hs4⟩ := own_slice o4
      obtain ⟨m1, hm1⟩ : ∃ m, f.first.length = m := ⟨_, rfl⟩
      obtain ⟨m2, hm2⟩ : ∃ m, f.follow.length = m := ⟨_, rfl⟩
      rw [hm1] at hs1 hs3
      rw [hm2] at hs2 hs4
      rw [hs1] at z2 CS1
      rw [hs2] at z3 CS2
      rw [hs3] at t2 CS1
      rw [hs4] at t3 CS2
      have hg1w : g1 < wr.heap.size := Nat.lt_of_lt_of_le hl1 hB13.size
      have hg2w : g2 < wr.heap.size := Nat.lt_of_lt_of_le hl2 hB.out.size
      have hlen1 : ((f.least : Int) == f.least) = true := by simp
      clear k1 k2 hp1 hp2 x0 x1 x2 x3 x4 y0 y1 y2 y3 y4 o1 o2 o3 o4 n1 n2 hs1 hs2 hs3 hs4 hm1 hm2 hdr hf hB13
      go_wp2
      go_quiet ((go_at_call 48; exact CS1.out _))
      go_wp2
      go_quiet ((go_at_call 48; exact (CS2.out _ _).mono fun _ _ h => ⟨h.1, by obtain ⟨m, hm⟩ := h.2; exact ⟨m, hm.trans (by simp)⟩⟩))
      go_wp2
      go_quiet (fail)
      go_wp2
      go_roundw
      case rel => exact ⟨j + 1, by omega, by go_num, hid (hB.out.trans ((below_draws wr _).mono hB.out.size))⟩
      case measure => simp [intOf]; omega
    · have HV4 : Hid (FcV wr w.heap.size (.slice a1 n c1) fs ps1) := hid (by
        have h1 := HV1.out.below ((HB2.out.trans (HB3.out.mono HB2.out.size)).trans (hB.out.mono (Nat.le_trans HB2.out.size HB3.out.size)))
        rw [← HN.out] at h1
        exact h1)
      go_wp2
      go_ret2
      exact ⟨_, ps1, rfl, HV4.out, HB1.out.trans (((HB2.out.trans (HB3.out.mono HB2.out.size)).trans (hB.out.mono (Nat.le_trans HB2.out.size HB3.out.size))).mono HB1.out.size)⟩

end Go.Proofs.YtjjggdcnpndgjaaGreatDoor

namespace Go.Proofs.YtjjggdcnpndgjaaGreatDoor
open Go.RowKit Go.Shelf

set_option maxHeartbeats 1000000 in
set_option maxRecDepth 100000 in
theorem factual_err (s : ByteArray) (w : World) (nm : ByteArray) (err : Int) (he : err ≠ 0)
    (hF : Calls Tryz.prog 28 #[.string s] w fun e w' => e = .returned (.tuple #[.slice none 0 0, .int .i64 err]) ∧ Below w.heap.size w w')
    (hW : ∀ W, Below w.heap.size w W → Calls Tryz.prog 46 #[.string s] W fun e w' => ∃ p, e = .returned (.tuple #[.pointer p, .string nm, .int .i64 err]) ∧ Below W.heap.size W w') :
    Calls Tryz.prog 14 #[.string s] w fun e w' => e = .returned (.tuple #[.slice none 0 0, .bool true]) ∧ Below w.heap.size w w' := by
  have HF : Hid _ := hid hF
  have HW : Hid _ := hid hW
  have hne : (err == 0) = false := by simpa using he
  have heq : (err == err) = true := by simp
  clear hF hW
  go_enter Tryz.func14, Tryz.ntmps14
  go_wp2_with (first
    | (go_at_call 28; refine HF.out.mono ?_; rintro e w1 ⟨rfl, hb1⟩; have HB1 : Hid _ := hid hb1; clear hb1 HF)
    | (go_at_call 46; refine (HW.out _ HB1.out).mono ?_; rintro e w2 ⟨p, rfl, hb2⟩; have HB2 : Hid _ := hid hb2; clear hb2 HW))
  go_wp2
  go_ret2
  exact ⟨rfl, HB1.out.trans (HB2.out.mono HB1.out.size)⟩

/-- darnlaw.Tells is true where factual is. -/
theorem tells_of (s : ByteArray) (w : World) (hF : Calls Tryz.prog 14 #[.string s] w fun e w' => ∃ v, e = .returned (.tuple #[v, .bool true]) ∧ Below w.heap.size w w') :
    Calls Tryz.prog 3 #[.string s] w fun e w' => e = .returned (.bool true) ∧ Below w.heap.size w w' := by
  have HF : Hid _ := hid hF
  clear hF
  go_enter Tryz.func3, Tryz.ntmps3
  go_wp2_with (go_at_call 14; refine HF.out.mono ?_; rintro e w1 ⟨v, rfl, hb1⟩; have HB1 : Hid _ := hid hb1; clear hb1 HF)
  go_ret
  exact ⟨rfl, HB1.out⟩

end Go.Proofs.YtjjggdcnpndgjaaGreatDoor

namespace Go.Proofs.YtjjggdcnpndgjaaGreatDoor
open Go.RowKit Go.Shelf

/-- The text is none. -/
theorem wanted_bad (s : ByteArray) (w : World) (hs : s.size ≤ 9223372036854775807) (he : (readB s).1 ≠ 0) :
    Calls Tryz.prog 46 #[.string s] w fun e w' => ∃ p, e = .returned (.tuple #[.pointer p, .string ByteArray.empty, .int .i64 (readB s).1]) ∧ Below w.heap.size w w' := by
  have CR := read_any s w hs
  have HCR : Hid _ := hid CR
  have HE : Hid ((readB s).1 ≠ 0) := hid he
  obtain ⟨er, her⟩ : ∃ er, (readB s).1 = er := ⟨_, rfl⟩
  rw [her] at he ⊢
  have HER : Hid ((readB s).1 = er) := hid her
  have hne : (er == 0) = false := by simpa using he
  clear CR her
  go_enter Tryz.func46, Tryz.ntmps46
  go_wp2_with (go_at_call 74; refine HCR.out.mono ?_; rintro e w1 ⟨p, rfl, hb1, hp, _⟩; obtain rfl := hp HE.out; rw [HER.out]; have HB1 : Hid _ := hid hb1; clear hb1 hp HCR)
  go_ret3
  exact ⟨none, rfl, HB1.out⟩

/-- The text is a grammar: what is wasted in it. -/
theorem wanted_ok (s : ByteArray) (w : World) (hs : s.size ≤ 9223372036854775807) (he : (readB s).1 = 0) (N : NG) (hR : Rep (readB s).2.2 N) :
    Calls Tryz.prog 46 #[.string s] w fun e w' => ∃ gb, e = .returned (.tuple #[.pointer (some ⟨gb, 0, none⟩), .string (wasteB (readB s).2.2 N).1, .int .i64 (wasteB (readB s).2.2 N).2]) ∧ GrAt w' w.heap.size gb (readB s).2.2 ∧ Below w.heap.size w w' := by
  have CR := read_any s w hs
  have HCR : Hid _ := hid CR
  have HE : Hid ((readB s).1 = 0) := hid he
  have HR : Hid _ := hid hR
  clear CR he hR
  go_enter Tryz.func46, Tryz.ntmps46
  go_wp2_with (first
    | (go_at_call 74; refine HCR.out.mono ?_; rintro e w1 ⟨p, rfl, hb1, _, hg⟩; obtain ⟨gb, rfl, hgr⟩ := hg HE.out; rw [HE.out]; have HB1 : Hid _ := hid hb1; have HG1 : Hid _ := hid hgr; have CW : Hid _ := hid (waste_any _ N HR.out w1 _ gb hgr); clear hb1 hgr hg HCR)
    | (go_at_call 75; refine CW.out.mono ?_; rintro e w2 ⟨rfl, hb2⟩; have HB2 : Hid _ := hid hb2; clear hb2 CW))
  go_ret3
  exact ⟨_, rfl, HG1.out.below HB2.out, HB1.out.trans (HB2.out.mono HB1.out.size)⟩

end Go.Proofs.YtjjggdcnpndgjaaGreatDoor

namespace Go.Proofs.YtjjggdcnpndgjaaGreatDoor
open Go.RowKit Go.Shelf

theorem nmW_names {P : List Ln} {G : Gr} (h : GOk P G) : ∀ i, i < (ngL P).nN → nmW (pgL (codeL P) P) i = nth G.names i := by
  intro i hi
  rw [ngL_nN] at hi
  unfold nmW nth
  rw [h.g.names, List.getD_eq_getElem?_getD, List.getD_eq_getElem?_getD, Int.toNat_natCast]
  unfold pgL
  rw [List.getElem?_map, List.getElem?_eq_getElem hi]
  simp [G0, hi, nmOf]

/-- source.Read of a grammar. -/
theorem sread_any (s : ByteArray) (w : World) (hG : Glob w) (hs : s.size ≤ 9223372036854775807) (he : (readB s).1 = 0) :
    Calls Tryz.prog 105 #[.string s] w fun e w' => ∃ adT capT gN capN, e = .returned (.tuple #[.agg #[.slice adT (ngL (progL (scanA s 0).1)).nT capT, .slice (some ⟨gN, 0, none⟩) (ngL (progL (scanA s 0).1)).nN capN], .int .i64 0]) ∧ (∀ W'', (∀ q, w.heap.size ≤ q → q < w'.heap.size → W''.heap[q]? = w'.heap[q]?) → PGr W'' w'.heap.size (ngL (progL (scanA s 0).1)) (twsL (progL (scanA s 0).1)) (pgL (codeL (progL (scanA s 0).1)) (progL (scanA s 0).1)) adT capT gN capN) ∧ Below w.heap.size w w' := by
  have hp : (progB s).1 = 0 := by rw [prog_same]; exact he
  have h4 : s.size ≤ 4000 := by
    rcases Nat.lt_or_ge 4000 s.size with h | h
    · unfold progB at hp; rw [if_pos h] at hp; cases hp
    · exact h
  exact sread_ok s w hG hs (lines_ok s) hp _ _ _ (fun W B v pv hb hV => built_any _ _ (gok_of s he) (lines_ok s h4) W (hG.below hb hG.size) B v pv hV)

theorem wds_len {tws : List ByteArray} (on : List Bool) (h : tws.length ≤ 20) : (listB tws on).length ≤ 21 := by
  unfold listB
  have h1 := List.length_filter_le (fun t => bAt on t) (List.range tws.length)
  rw [List.length_range] at h1
  rw [List.length_append, List.length_map]
  split
  · simp; omega
  · simp; omega

theorem factual_any (s : ByteArray) (w : World) (hG : Glob w) (hT : TabAt 1 Lib.deBruijn32tab w) (hs : s.size ≤ 9223372036854775807) :
    Calls Tryz.prog 14 #[.string s] w fun e w' => ∃ v fs ps, e = .returned (.tuple #[v, .bool true]) ∧ FcV w' w.heap.size v fs ps ∧ Below w.heap.size w w' := by
  by_cases he : (readB s).1 = 0
  · have hg := gok_of s he
    have hR := rep_of hg
    have hS := fread_ok s w _ _ _ (fun W hb => sread_any s W (hG.below hb hG.size) hs he)
    by_cases hz : (wasteB (readB s).2.2 (ngL (progL (scanA s 0).1))).2 = 0
    · have hF := dfacts_ok s w (ngL (progL (scanA s 0).1)) (twsL (progL (scanA s 0).1)) (pgL (codeL (progL (scanA s 0).1)) (progL (scanA s 0).1)) hT (by have := hG.size; omega) (factsB (readB s).2.2 (ngL (progL (scanA s 0).1)) (ngL (progL (scanA s 0).1)).nN) hR.ok (hS.mono (by
        rintro e w' ⟨hb, k1, k2, hf, h⟩
        have hsame := fault_same hR.ok hf (nmW_names hg)
        rcases h with ⟨h, _⟩ | ⟨_, k3, k4, n₀, kb, adT, capT, gN, capN, h3, s3, h4, s4, h5, h6, h7, h8⟩
        · rw [hsame] at h; exact absurd hz h
        · exact ⟨hb, k2, k3, k4, n₀, kb, adT, capT, gN, capN, h3, h4, rows_same hR.ok hR.leT ⟨hf, h3, s3, h4, s4⟩ hg.tws rfl (nmW_names hg) hz, h5, h6, h7, h8⟩))
      refine (factual_ok s w _ (wasteB (readB s).2.2 (ngL (progL (scanA s 0).1))).1 ?_ ?_ hF ?_).mono ?_
      · show ((List.range _).map _).length ≤ 20
        simp only [List.length_map, List.length_range]
        exact hR.leN
      · intro f hf
        obtain ⟨i, _, rfl⟩ := List.mem_map.1 hf
        have hl : (tokWs (readB s).2.2.toks).length ≤ 20 := by unfold tokWs; rw [List.length_map, ← hR.nT]; exact hR.leT
        exact ⟨wds_len _ hl, wds_len _ hl⟩
      · intro W hb
        refine (wanted_ok s W hs he _ hR).mono ?_
        rintro e w' ⟨gb, rfl, hgr, hb'⟩
        rw [hz]
        exact ⟨_, rfl, hb', fun W' hW' => facts_any _ _ hR W' _ gb (hgr.below hW')⟩
      · rintro e w' ⟨v, ps, h1, h2, h3⟩
        exact ⟨v, _, ps, h1, h2, h3⟩
    · have hF := dfacts_err s w (wasteB (readB s).2.2 (ngL (progL (scanA s 0).1))).1 _ hz (hS.mono (by
        rintro e w' ⟨hb, k1, k2, hf, h⟩
        have hsame := fault_same hR.ok hf (nmW_names hg)
        rw [hsame] at h
        rcases h with ⟨_, h⟩ | ⟨h, _⟩
        · exact ⟨h, hb⟩
        · exact absurd h hz))
      refine (factual_err s w (wasteB (readB s).2.2 (ngL (progL (scanA s 0).1))).1 _ hz hF ?_).mono ?_
      · intro W hb
        refine (wanted_ok s W hs he _ hR).mono ?_
        rintro e w' ⟨gb, rfl, _, hb'⟩
        exact ⟨_, rfl, hb'⟩
      · rintro e w' ⟨h1, h2⟩
        exact ⟨_, [], [], h1, ⟨World.ownsRow_nil _ _ _ _, rfl, fun i x p hx => by simp at hx⟩, h2⟩
  · have hp : (progB s).1 = (readB s).1 := by rw [prog_same]
    have hF := dfacts_err s w ByteArray.empty (readB s).1 he (fread_err s w _ he (fun W hb => by
      have h := sread_err s W (hG.below hb hG.size) hs (lines_ok s) (by rw [hp]; exact he)
      rw [hp] at h
      exact h))
    refine (factual_err s w ByteArray.empty _ he hF (fun W hb => wanted_bad s W hs he)).mono ?_
    rintro e w' ⟨h1, h2⟩
    exact ⟨_, [], [], h1, ⟨World.ownsRow_nil _ _ _ _, rfl, fun i x p hx => by simp at hx⟩, h2⟩

theorem tells_any (s : ByteArray) (w : World) (hG : Glob w) (hT : TabAt 1 Lib.deBruijn32tab w) (hs : s.size ≤ 9223372036854775807) :
    Calls Tryz.prog 3 #[.string s] w fun e w' => e = .returned (.bool true) ∧ Below w.heap.size w w' :=
  tells_of s w ((factual_any s w hG hT hs).mono (by rintro e w' ⟨v, fs, ps, h1, _, h3⟩; exact ⟨v, h1, h3⟩))

end Go.Proofs.YtjjggdcnpndgjaaGreatDoor
