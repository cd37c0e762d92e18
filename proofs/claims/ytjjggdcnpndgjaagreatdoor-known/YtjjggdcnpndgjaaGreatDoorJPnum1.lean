/- source.numbered: a number for each token and each name. -/
import Derived.Test.YtjjggdcnpndgjaaGreatDoorJ5
namespace Go.Proofs.YtjjggdcnpndgjaaGreatDoor
open Go.RowKit Go.WideMaps Go.Maps

/-- How a Part that lies in the map reads: a token's number doubled; a name's, and one. -/
def partR (v : Value) : Option (DataW Unit × List MemPlace) :=
  match v with
  | .agg cs => match cs.toList with
    | [.bool b, .int .i64 n] => some (.lit (.int .i64 (2 * n + if b then 1 else 0)), [])
    | _ => none
  | _ => none

theorem partR_inv {v : Value} {c : Int} {ps : List MemPlace} (h : partR v = some (.lit (.int .i64 c), ps)) : v = .agg #[.bool (decide (c % 2 = 1)), .int .i64 (c / 2)] := by
  unfold partR at h
  split at h
  · rename_i cs
    split at h
    · rename_i b n hcs
      simp only [Option.some.injEq, Prod.mk.injEq, DataW.lit.injEq, Lit.int.injEq, true_and] at h
      obtain ⟨h1, _⟩ := h
      have h2 : cs = #[.bool b, .int .i64 n] := Array.toList_inj.1 hcs
      rw [h2]
      cases b
      · have e1 : decide (c % 2 = 1) = false := decide_eq_false (by simp at h1; omega)
        have e2 : c / 2 = n := by simp at h1; omega
        rw [e1, e2]
      · have e1 : decide (c % 2 = 1) = true := decide_eq_true (by simp at h1; omega)
        have e2 : c / 2 = n := by simp at h1; omega
        rw [e1, e2]
    · cases h
  · cases h

/-- What the numbered map comes to, a line after the other. -/
def codeF : List Ln → Nat → Nat → (ByteArray → Int) → ByteArray → Int
  | [], _, _, f => f
  | x :: r, t, n, f => if x.2.1 = 0 then codeF r (t + 1) n (fun s => if sameB (givesB 0 x.2.2) s = true then 2 * (t : Int) else f s)
    else if x.2.1 = 2 then codeF r t (n + 1) (fun s => if sameB (givesB 2 x.2.2) s = true then 2 * (n : Int) + 1 else f s) else codeF r t n f

/-- The map, in memory. -/
def NumV (w : World) (b n : Nat) (f : ByteArray → Int) : Prop := ∃ D : DataW Unit, w.ownsMap Tryz.prog 9 partR b n D ∧ IsMap D ∧ ∀ s : ByteArray, D.atKey (.string s.data.toList) (.lit (.int .i64 0)) = .lit (.int .i64 (f s))

theorem NumV.block {w w' : World} {b n : Nat} {f : ByteArray → Int} (h : NumV w b n f) (hb : w'.heap[b]? = w.heap[b]?) : NumV w' b n f := by
  obtain ⟨D, hown, h2, h3⟩ := h
  obtain ⟨es, clock, h4, h5⟩ := hown
  exact ⟨D, ⟨es, clock, hb.trans h4, h5⟩, h2, h3⟩

theorem NumV.lt {w : World} {b n : Nat} {f : ByteArray → Int} (h : NumV w b n f) : b < w.heap.size := by
  obtain ⟨D, hown, _⟩ := h
  exact hown.lt

theorem NumV.below {w w' : World} {b n : Nat} {f : ByteArray → Int} (h : NumV w b n f) (hb : Below w.heap.size w w') : NumV w' b n f := h.block (hb.block b h.lt)

theorem num_put {D : DataW Unit} {f : ByteArray → Int} (hm : IsMap D) (h : ∀ s : ByteArray, D.atKey (.string s.data.toList) (.lit (.int .i64 0)) = .lit (.int .i64 (f s))) (x : ByteArray) (c : Int) :
    ∀ s : ByteArray, (D.put (.string x.data.toList) (.lit (.int .i64 c))).atKey (.string s.data.toList) (.lit (.int .i64 0)) = .lit (.int .i64 (if sameB x s = true then c else f s)) := by
  intro s
  by_cases e : x.data.toList = s.data.toList
  · rw [← e, atKey_put_same hm (by trivial), if_pos (show sameB x s = true from decide_eq_true e)]
  · rw [atKey_put_other (fun h => e (by injection h with h; exact h.symm)), h s, if_neg (fun h : sameB x s = true => e (of_decide_eq_true h))]

theorem codeF_at {ls : List Ln} {k : Nat} {x : Ln} (hx : ls[k]? = some x) (t n : Nat) (f : ByteArray → Int) : codeF (ls.drop k) t n f = if x.2.1 = 0 then codeF (ls.drop (k + 1)) (t + 1) n (fun s => if sameB (givesB 0 x.2.2) s = true then 2 * (t : Int) else f s)
    else if x.2.1 = 2 then codeF (ls.drop (k + 1)) t (n + 1) (fun s => if sameB (givesB 2 x.2.2) s = true then 2 * (n : Int) + 1 else f s) else codeF (ls.drop (k + 1)) t n f := by
  obtain ⟨hk, rfl⟩ := List.getElem?_eq_some_iff.1 hx
  rw [List.drop_eq_getElem_cons hk]; rfl

theorem Tryz.zeroPart (w : World) : (zeroValue 235).run Tryz.prog w = .ok (.agg #[.bool false, .int .i64 0]) w := by kernel_rfl

/-- The look-up. -/
theorem NumV.look {w : World} {b n : Nat} {f : ByteArray → Int} (h : NumV w b n f) (s : ByteArray) (hs : s.size ≤ maxLen) : (Instr.lookup 322 (.map (some b)) (.string s) false).run Tryz.prog w = .ok (.agg #[.bool (decide (f s % 2 = 1)), .int .i64 (f s / 2)]) w := by
  obtain ⟨D, hown, _, hat⟩ := h
  obtain ⟨v, ps, hrun, hR⟩ := hown.lookup Tryz.lawStr Tryz.underlying322 (Tryz.zeroPart w) (zd := .lit (.int .i64 0)) (zp := []) rfl (keyOf_string_mk Tryz.underlying9 hs)
  rw [hat s] at hR
  rw [hrun, partR_inv hR]

set_option maxHeartbeats 2000000 in
set_option maxRecDepth 100000 in
theorem numbered_any (v : Value) (ls : List Ln) (pv : List Value) (B : Nat) (w : World) (hV : LnV w B v ls pv) (hok : LinesOk ls) :
    Calls Tryz.prog 199 #[v] w fun e w' => e = .returned (.map (some w.heap.size)) ∧ NumV w' w.heap.size ls.length (codeF ls 0 0 (fun _ => 0)) ∧ Below w.heap.size w w' := by
  have hmm := @run_makeMap Tryz.prog
  rcases hV.form with ⟨rfl, rfl⟩ | ⟨g, cap, rfl, hnc, hg⟩
  · have HB : Hid (Below w.heap.size w (w.alloc (.map #[] 0))) := hid ((Below.refl _ _).alloc (Nat.le_refl _) _)
    have HM : Hid (NumV (w.alloc (.map #[] 0)) w.heap.size 0 (fun _ => 0)) := hid ⟨_, World.ownsMap_made _ _ _ _, isMap_empty, fun s => rfl⟩
    clear hV hok
    go_enter Tryz.func199, Tryz.ntmps199
    go_wp2
    clear hmm
    go_loopw [11] (fun i wr => i = .int .i64 0 ∧ Hid (NumV wr w.heap.size 0 (fun _ => 0)) ∧ Hid (Below w.heap.size w wr)) (fun i _ => 0)
    case atStart => exact ⟨rfl, HM, HB⟩
    case round =>
      obtain ⟨rfl, hm, hbr⟩ := hrel
      go_wp2
      go_ret
      exact ⟨rfl, hm.out, hbr.out⟩
  · obtain ⟨n, hN⟩ : ∃ n, n = ls.length := ⟨_, rfl⟩
    have hn := hok.len
    rw [← hN] at hn hnc hV ⊢
    have HN : Hid (n = ls.length) := hid hN
    have HV : Hid _ := hid hV
    have HOK : Hid _ := hid hok
    have HB : Hid (Below w.heap.size w (w.alloc (.map #[] 0))) := hid ((Below.refl _ _).alloc (Nat.le_refl _) _)
    have HM : Hid (NumV (w.alloc (.map #[] 0)) w.heap.size 0 (fun _ => 0)) := hid ⟨_, World.ownsMap_made _ _ _ _, isMap_empty, fun s => rfl⟩
    clear hN hV hok
    go_enter Tryz.func199, Tryz.ntmps199
    go_wp2
    clear hmm
    go_loopw [4, 5, 11] (fun a b i wr => ∃ (k t m : Nat) (f : ByteArray → Int), k ≤ n ∧ t ≤ k ∧ m ≤ k ∧ i = .int .i64 k ∧ a = .int .i64 t ∧ b = .int .i64 m ∧ Hid (codeF ls 0 0 (fun _ => 0) = codeF (ls.drop k) t m f) ∧ Hid (NumV wr w.heap.size k f) ∧ Hid (Below w.heap.size w wr)) (fun _ _ i _ => n - (intOf i).toNat)
    case atStart => exact ⟨0, 0, 0, _, by omega, by omega, by omega, rfl, rfl, rfl, rfl, HM, HB⟩
    case round =>
      clear HM HB
      obtain ⟨k, t, m, f, hk, htk, hmk, rfl, rfl, rfl, ht, hm, hbr⟩ := hrel
      have hsz := hbr.out.size
      by_cases hlt : k < n
      · obtain ⟨x, hx⟩ : ∃ x, ls[k]? = some x := ⟨_, List.getElem?_eq_getElem (by have := HN.out; omega)⟩
        have hxok := HOK.out.ok x (List.mem_of_getElem? hx)
        have hxs := HOK.out.gsz x (List.mem_of_getElem? hx)
        have hx2 := HOK.out.sh x (List.mem_of_getElem? hx)
        have hT := codeF_at hx t m f
        obtain ⟨p, hp, hWV, k0, k1, k2⟩ := (HV.out.below hbr.out).at hx
        obtain ⟨at_, sh, l⟩ := x
        simp only at k0 k1 k2 hT hWV hxs hx2
        have hgr : g < wr.heap.size := Nat.lt_of_lt_of_le hg hsz
        have HWV : Hid _ := hid hWV
        obtain ⟨gw, q, qc, ad, cs, rfl, _⟩ := hWV
        have HB1 : Hid (Below w.heap.size w (wr.alloc (.cells #[.int .i64 at_, .int .i64 sh, .slice ad q qc] 325))) := hid (hbr.out.alloc hsz _)
        have HA1 : Hid (Below wr.heap.size wr (wr.alloc (.cells #[.int .i64 at_, .int .i64 sh, .slice ad q qc] 325))) := hid ((Below.refl _ _).alloc (Nat.le_refl _) _)
        obtain ⟨wd, hwd⟩ : ∃ wd, givesB sh l = wd := ⟨_, rfl⟩
        have cG := gives_any at_ sh (.slice ad q qc) l _ (HWV.out.below HA1.out) (by have := hxok.1; simp only at this; omega) hxok.2
        rw [hwd] at cG hxs
        have CG : Hid _ := hid cG
        have HT : Hid _ := hid (ht.out.trans hT)
        obtain ⟨D, hown, hD, hat⟩ := hm.out
        have hkey : keyOf Tryz.prog 9 (.string wd) = some (.string wd.data.toList) := keyOf_string_mk Tryz.underlying9 (by unfold maxLen; omega)
        have HKey : Hid _ := hid hkey
        have HOwn : Hid _ := hid hown
        have HPut : Hid _ := hid fun c => num_put hD hat wd c
        have HD2 : Hid (∀ c : Int, IsMap (D.put (.string wd.data.toList) (.lit (.int .i64 c)))) := hid fun c => hD.put _ _
        have HWd : Hid _ := hid hwd
        clear hp hx hxok ht hT cG hwd hat hD hown hkey hxs
        have hk4 : k < 4000 := by omega
        have hwsz := HOwn.out.lt
        have hshape : sh = 0 ∨ sh = 1 ∨ sh = 2 := by omega
        clear hx2
        rcases hshape with rfl | rfl | rfl
        · have HE : Hid (codeF ls 0 0 (fun _ => 0) = codeF (ls.drop (k + 1)) (t + 1) m (fun s => if sameB wd s = true then 2 * (t : Int) else f s)) := hid (by rw [HT.out, if_pos rfl, HWd.out])
          go_wp2_with (first
            | (go_at_call 210; refine CG.out.mono ?_; rintro e w2 ⟨rfl, hb2⟩; have HN2 : Hid (Below w.heap.size w w2) := hid (HB1.out.trans (hb2.mono HB1.out.size)); have hown2 : w2.ownsMap Tryz.prog 9 partR w.heap.size k D := (by obtain ⟨es, clock, h4, h5⟩ := HOwn.out; exact ⟨es, clock, ((HA1.out.trans (hb2.mono HA1.out.size)).block _ hwsz).trans h4, h5⟩); have HO2 : Hid _ := hid hown2; clear hown2 hb2)
            | (at_mapUpdate; refine wpList_mapUpdate_own _ rfl _ _ _ 322 rfl 9 235 Tryz.lawStr Tryz.underlying322 partR w.heap.size k _ rfl HO2.out (by unfold maxLen; omega) _ _ _ rfl rfl HKey.out (.lit (.int .i64 (2 * (t : Int) + if false = true then 1 else 0))) [] rfl ?_))
          intro w3 hown3 hgrow3
          have HB3 : Hid (Below w.heap.size w w3) := hid (HN2.out.grown hgrow3 HN2.out.size (fun j hj => by cases hj; exact Nat.le_refl _))
          have HNV : Hid (NumV w3 w.heap.size (k + 1) (fun s => if sameB wd s = true then 2 * (t : Int) else f s)) := hid ⟨_, hown3, HD2.out _, HPut.out _⟩
          clear hown3 hgrow3
          go_wp2
          go_roundw
          case rel => exact ⟨k + 1, t + 1, m, _, by omega, by omega, by omega, by go_num, by go_num, by go_num, HE, HNV, HB3⟩
          case measure => simp [intOf]; omega
        · have HE : Hid (codeF ls 0 0 (fun _ => 0) = codeF (ls.drop (k + 1)) t m f) := hid (by rw [HT.out, if_neg (by decide), if_neg (by decide)])
          go_wp2
          go_roundw
          case rel => exact ⟨k + 1, t, m, f, by omega, by omega, by omega, by go_num, rfl, rfl, HE, hid (by have h1 := hm.out.below HA1.out; obtain ⟨D', ⟨es, clock, h4, h5, h6, h7⟩, h2, h3⟩ := h1; exact ⟨D', ⟨es, clock, h4, h5, by omega, h7⟩, h2, h3⟩), HB1⟩
          case measure => simp [intOf]; omega
        · have HE : Hid (codeF ls 0 0 (fun _ => 0) = codeF (ls.drop (k + 1)) t (m + 1) (fun s => if sameB wd s = true then 2 * (m : Int) + 1 else f s)) := hid (by rw [HT.out, if_neg (by decide), if_pos rfl, HWd.out])
          go_wp2_with (first
            | (go_at_call 210; refine CG.out.mono ?_; rintro e w2 ⟨rfl, hb2⟩; have HN2 : Hid (Below w.heap.size w w2) := hid (HB1.out.trans (hb2.mono HB1.out.size)); have hown2 : w2.ownsMap Tryz.prog 9 partR w.heap.size k D := (by obtain ⟨es, clock, h4, h5⟩ := HOwn.out; exact ⟨es, clock, ((HA1.out.trans (hb2.mono HA1.out.size)).block _ hwsz).trans h4, h5⟩); have HO2 : Hid _ := hid hown2; clear hown2 hb2)
            | (at_mapUpdate; refine wpList_mapUpdate_own _ rfl _ _ _ 322 rfl 9 235 Tryz.lawStr Tryz.underlying322 partR w.heap.size k _ rfl HO2.out (by unfold maxLen; omega) _ _ _ rfl rfl HKey.out (.lit (.int .i64 (2 * (m : Int) + if true = true then 1 else 0))) [] rfl ?_))
          intro w3 hown3 hgrow3
          have HB3 : Hid (Below w.heap.size w w3) := hid (HN2.out.grown hgrow3 HN2.out.size (fun j hj => by cases hj; exact Nat.le_refl _))
          have HNV : Hid (NumV w3 w.heap.size (k + 1) (fun s => if sameB wd s = true then 2 * (m : Int) + 1 else f s)) := hid ⟨_, hown3, HD2.out _, HPut.out _⟩
          clear hown3 hgrow3
          go_wp2
          go_roundw
          case rel => exact ⟨k + 1, t, m + 1, _, by omega, by omega, by omega, by go_num, by go_num, by go_num, HE, HNV, HB3⟩
          case measure => simp [intOf]; omega
      · have HE : Hid (codeF ls 0 0 (fun _ => 0) = f) := hid (by
          rw [ht.out, List.drop_eq_nil_of_le (by have := HN.out; omega)]; rfl)
        obtain rfl : k = n := by omega
        go_wp2
        go_ret
        exact ⟨rfl, by rw [HE.out]; exact hm.out, hbr.out⟩

end Go.Proofs.YtjjggdcnpndgjaaGreatDoor
