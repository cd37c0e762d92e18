/- (line).uses: what a line uses. -/
import Derived.Test.YtjjggdcnpndgjaaDoorPrules
import Derived.Laws.AppendOwnNone
namespace Go.Proofs.YtjjggdcnpndgjaaDoor
open Go.RowKit

def usesB (sh : Nat) (l : List ByteArray) : List ByteArray := if sh = 1 then [nth l 1, nth l 2] else if sh = 2 then (rulesL l).flatten else []

theorem pst_flat (l : List ByteArray) : (pst l).1.flatten ++ (pst l).2 = l.filter fun x => !barB x := by
  suffices h : ∀ (l : List ByteArray) (st : List (List ByteArray) × List ByteArray), (l.foldl pstep st).1.flatten ++ (l.foldl pstep st).2 = st.1.flatten ++ st.2 ++ l.filter (fun x => !barB x) from by simpa [pst] using h l ([], [])
  intro l
  induction l with
  | nil => intro st; simp
  | cons x r ih =>
    intro st
    rw [List.foldl_cons, ih]
    unfold pstep
    by_cases hb : barB x = true
    · rw [if_pos hb]; simp [hb]
    · rw [if_neg hb]; simp [hb]

theorem rules_flat (l : List ByteArray) : (rulesL l).flatten = (l.drop 3).filter fun x => !barB x := by
  rw [← pst_flat]; unfold rulesL; simp

theorem rules_flat_len (l : List ByteArray) (k : Nat) : ((rulesL l).take k).flatten.length ≤ l.length := by
  have h1 : (rulesL l).flatten.length ≤ l.length := by
    rw [rules_flat]
    exact Nat.le_trans (List.length_filter_le _ _) (by simp)
  have h2 : (rulesL l).flatten = ((rulesL l).take k).flatten ++ ((rulesL l).drop k).flatten := by
    rw [← List.flatten_append, List.take_append_drop]
  rw [h2, List.length_append] at h1
  omega

theorem pst_len (l : List ByteArray) : (pst l).1.length ≤ l.length := by
  suffices h : ∀ (l : List ByteArray) (st : List (List ByteArray) × List ByteArray), (l.foldl pstep st).1.length ≤ st.1.length + l.length from by simpa [pst] using h l ([], [])
  intro l
  induction l with
  | nil => intro st; simp
  | cons x r ih =>
    intro st
    have h1 := ih (pstep st x)
    have h2 : (pstep st x).1.length ≤ st.1.length + 1 := by unfold pstep; split <;> simp
    simp only [List.foldl_cons, List.length_cons]
    omega

theorem rules_len (l : List ByteArray) : (rulesL l).length ≤ l.length + 1 := by
  unfold rulesL
  have := pst_len (l.drop 3)
  simp at this ⊢
  omega

/-- Rows of words, all done. -/
structure RowsV (w : World) (B : Nat) (v : Value) (rs : List (List ByteArray)) (pvs : List Value) : Prop where
  row : w.ownsRow B 33 1 v rs.length pvs
  each : ∀ (i : Nat) (r : List ByteArray) (p : Value), rs[i]? = some r → pvs[i]? = some p → w.ownsRow B 9 1 p r.length (r.map Value.string)

theorem RulV.rows {w : World} {B Bl : Nat} {v : Value} {done : List (List ByteArray)} {cur : List ByteArray} {pvd : List Value} {pl : Value} (h : RulV w B Bl v done cur pvd pl) : RowsV w B v (done ++ [cur]) (pvd ++ [pl]) := by
  have hl := h.pvl
  refine ⟨by simpa using h.row, fun i r p hr hp => ?_⟩
  by_cases hi : i < done.length
  · rw [List.getElem?_append_left hi] at hr
    rw [List.getElem?_append_left (by omega)] at hp
    exact (h.parts i r p hr hp).1
  · rw [List.getElem?_append_right (by omega)] at hr
    rw [List.getElem?_append_right (by omega)] at hp
    obtain ⟨h1, _⟩ := List.getElem?_eq_some_iff.1 hr
    simp at h1
    rw [show i - done.length = 0 by omega] at hr
    rw [show i - pvd.length = 0 by omega] at hp
    simp at hr hp
    subst hr; subst hp
    exact ownsRow_base h.last h.hB

theorem rules_rows (a sh : Nat) (p : Value) (l : List ByteArray) (w : World) (hW : WordsV w p l) (hl : 3 ≤ l.length) (hll : l.length ≤ 4001) :
    Calls Tryd.prog 30 #[.agg #[.int .i64 a, .int .i64 sh, p]] w fun e w' => ∃ g cap pvs, e = .returned (.slice (some ⟨g, 0, none⟩) (rulesL l).length cap) ∧ RowsV w' w.heap.size (.slice (some ⟨g, 0, none⟩) (rulesL l).length cap) (rulesL l) pvs ∧ Below w.heap.size w w' := by
  refine (rules_any a sh p l w hW hl hll).mono ?_
  rintro e w' ⟨v, Bl, pvd, pl, rfl, hR, hb⟩
  have h := hR.rows
  obtain ⟨g, cap, hv, _⟩ := owned_shape h.row (by simp)
  subst hv
  exact ⟨g, cap, _, rfl, h, hb⟩

/-- The k-th of them. -/
theorem RowsV.at {w w' : World} {B g n cap : Nat} {rs : List (List ByteArray)} {pvs : List Value} (h : RowsV w B (.slice (some ⟨g, 0, none⟩) n cap) rs pvs) (hn : rs.length = n) (hb : Below w.heap.size w w') {k : Nat} (hk : k < n) :
    ∃ r p, rs[k]? = some r ∧ w'.cell? ⟨g, k, none⟩ = some p ∧ w'.ownsRow B 9 1 p r.length (r.map Value.string) ∧ (∀ q, p.ownBlock = some q → q < w.heap.size) := by
  have hr := h.row
  rw [hn] at hr
  have hpl : pvs.length = n := by have := hr.1; omega
  have hp : pvs[k]? = some (pvs[k]'(by omega)) := List.getElem?_eq_getElem (by omega)
  have hrk : rs[k]? = some (rs[k]'(by omega)) := List.getElem?_eq_getElem (by omega)
  have he := h.each k _ _ hrk hp
  refine ⟨_, _, hrk, ?_, own_keeps he (Keeps.of_below hb []) (by simp), fun q hq => own_lt he hq⟩
  rw [hb.cell (own_lt hr (g := g) rfl), hr.cellAt k (by omega), hp]

/-- What uses hands back. -/
def UsedV (w : World) (v : Value) (us : List ByteArray) : Prop := ∃ (ad : Option Addr) (cap : Nat), v = .slice ad us.length cap ∧ us.length ≤ cap ∧ (0 < us.length → ∃ g off, ad = some ⟨g, off, none⟩ ∧ StrsAt w g off us)

theorem own_news {w : World} {B e n g cap : Nat} {xs : List Value} (h : w.ownsRow B e 1 (.slice (some ⟨g, 0, none⟩) n cap) n xs) : ∀ j u, xs[j]? = some u → w.cell? ((⟨g, 0, none⟩ : Addr).add j) = some u := fun j u hu => by
  have hadd : (⟨g, 0, none⟩ : Addr).add j = ⟨g, j, none⟩ := by unfold Addr.add; split <;> simp_all
  have hj := (List.getElem?_eq_some_iff.1 hu).1
  have := h.1
  rw [hadd, h.cellAt j (by omega), hu]

theorem used_own {w : World} {B n : Nat} {v : Value} {us : List ByteArray} (h : w.ownsRow B 9 1 v n (us.map Value.string)) (hn : n = us.length) : UsedV w v us := by
  subst hn
  rcases h.2 with ⟨h1, h2⟩ | ⟨g, cap, cur, h1, _, _, hnc, _⟩
  · exact ⟨none, 0, by rw [h1, h2], by omega, fun h => by omega⟩
  · subst h1
    exact ⟨_, _, rfl, hnc, fun _ => ⟨g, 0, rfl, strsAt_owned h rfl⟩⟩

set_option maxHeartbeats 1000000 in
set_option maxRecDepth 100000 in
theorem uses_rule (a : Nat) (p : Value) (l : List ByteArray) (w : World) (hW : WordsV w p l) (hl : 3 ≤ l.length) (hll : l.length ≤ 4001) :
    Calls Tryd.prog 31 #[.agg #[.int .i64 a, .int .i64 2, p]] w fun e w' => ∃ v, e = .returned v ∧ UsedV w' v (rulesL l).flatten ∧ Below w.heap.size w w' := by
  obtain ⟨i0, hi, hz0, hz1, hz2⟩ := info_parts Tryd.info9
  have hW1 : WordsV (w.alloc (.cells #[.int .i64 a, .int .i64 2, p] 66)) p l := hW.below ((Below.refl _ _).alloc (Nat.le_refl _) _)
  have cR := rules_rows a 2 p l _ hW1 hl hll
  obtain ⟨n, hn⟩ : ∃ n, (rulesL l).length = n := ⟨_, rfl⟩
  have hn4 : n ≤ 4002 := by have := rules_len l; omega
  rw [hn] at cR
  have HN : Hid ((rulesL l).length = n) := hid hn
  have CR : Hid _ := hid cR
  have HB1 : Hid (Below w.heap.size w (w.alloc (.cells #[.int .i64 a, .int .i64 2, p] 66))) := hid ((Below.refl _ _).alloc (Nat.le_refl _) _)
  have HLL : Hid (l.length ≤ 4001) := hid hll
  obtain ⟨gw, m, mc, ad, cs, rfl, _⟩ := hW
  clear cR hn hW1 hl hll
  go_enter Tryd.func31, Tryd.ntmps31
  go_wp2_with (first | (go_at_call 30; refine CR.out.mono ?_; rintro e w2 ⟨g, cap, pvs, rfl, hR, hb2⟩))
  have hb2w : Below w.heap.size w w2 := HB1.out.trans (hb2.mono HB1.out.size)
  have HB2 : Hid _ := hid hb2w
  have HR : Hid _ := hid hR
  clear hb2 hb2w hR CR HB1
  go_loopw [3, 18] (fun v i wr => ∃ (k un : Nat), k ≤ n ∧ un ≤ 4001 ∧ i = .int .i64 k ∧ Hid (((rulesL l).take k).flatten.length = un) ∧ wr.ownsRow w2.heap.size 9 1 v un ((((rulesL l).take k).flatten).map Value.string) ∧ Hid (Below w2.heap.size w2 wr)) (fun _ i _ => n - (intOf i).toNat)
  case atStart => exact ⟨0, 0, by omega, by omega, rfl, rfl, World.ownsRow_nil _ _ _ _, Below.refl _ _⟩
  case round =>
    obtain ⟨k, un, hk, hun, rfl, hul, hown, hbr⟩ := hrel
    have hsz := hbr.out.size
    by_cases hlt : k < n
    · obtain ⟨r, q, hr, hq, hrow, hqb⟩ := HR.out.at HN.out hbr.out hlt
      have HT : Hid (((rulesL l).take (k + 1)).flatten = ((rulesL l).take k).flatten ++ r) := hid (by
        obtain ⟨hk', e⟩ := List.getElem?_eq_some_iff.1 hr
        rw [List.take_succ_eq_append_getElem hk', List.flatten_append, e]; simp)
      have hle : un + r.length ≤ 4001 := by
        have h1 := rules_flat_len l (k + 1)
        rw [HT.out, List.length_append, hul.out] at h1
        have := HLL.out
        omega
      rcases hrow.2 with ⟨h1, h2⟩ | ⟨gq, capq, cur, h1, _, _, hnc, _⟩
      · subst h1
        have hr0 : r = [] := List.eq_nil_of_length_eq_zero h2
        subst hr0
        clear hqb hrow hr
        go_wp2_with (first
          | (at_builtin; refine wpList_append_own_none rfl _ _ 33 rfl w2.heap.size 9 i0 1 Tryd.underlying33 hi _ _ _ rfl hown rfl ?_))
        go_roundw
        case rel => exact ⟨k + 1, un, by omega, hun, by go_num, hid (by rw [HT.out, List.append_nil]; exact hul.out), by rw [HT.out, List.append_nil]; exact hown, hbr⟩
        case measure => simp [intOf]; omega
      · subst h1
        obtain ⟨rn, hrn⟩ : ∃ rn, r.length = rn := ⟨_, rfl⟩
        rw [hrn] at hrow hle hnc hq
        have hnews := own_news hrow
        have HRN : Hid (r.length = rn) := hid hrn
        have hlen : (r.map Value.string).length = rn * 1 := by simp [hrn]
        clear hrn hqb hrow hr
        go_wp2_with (first
          | (at_builtin; (refine wpList_append_own _ rfl _ _ 33 rfl w2.heap.size 9 i0 (.string ByteArray.empty) 1 16 Tryd.underlying33 hi hz0 hz1 hz2 rfl (by decide) _ _ _ rfl hown ⟨gq, 0, none⟩ rn capq (r.map Value.string) rfl hlen hnews ?c2 ?c3 ?c4 ?c5 ?_)))
        case c2 => intro u hu; simp at hu; obtain ⟨y, _, rfl⟩ := hu; rfl
        case c3 => unfold maxLen; omega
        case c4 => omega
        case c5 => exact hsz
        intro v' w3 hown3 hgrow3 _
        have hbr3 : Hid (Below w2.heap.size w2 w3) := hid (hbr.out.grown hgrow3 hsz (fun j hj => (hown.lt j hj).1))
        clear hgrow3 hnews
        go_wp2
        go_roundw
        case rel => exact ⟨k + 1, un + rn, by omega, hle, by go_num, hid (by rw [HT.out, List.length_append, hul.out, HRN.out]), by rw [HT.out, List.map_append, List.map_flatten, List.map_take]; exact hown3, hbr3⟩
        case measure => simp [intOf]; omega
    · have HE : Hid ((rulesL l).take k = rulesL l) := hid (List.take_of_length_le (by have := HN.out; omega))
      have HO : Hid _ := hid (used_own hown hul.out.symm)
      clear hown
      go_wp2
      go_ret
      rw [← HE.out]
      exact ⟨_, rfl, HO.out, HB2.out.trans (hbr.out.mono HB2.out.size)⟩

theorem uses_swap (a : Nat) (p : Value) (l : List ByteArray) (w : World) (hW : WordsV w p l) (hl : 3 ≤ l.length) (hll : l.length ≤ 4001) :
    Calls Tryd.prog 31 #[.agg #[.int .i64 a, .int .i64 1, p]] w fun e w' => ∃ v, e = .returned v ∧ UsedV w' v [nth l 1, nth l 2] ∧ Below w.heap.size w w' := by
  obtain ⟨g, n, cap, ad, cs, rfl, h2, h3, h4, h5, h6, h7⟩ := hW
  have had := h7 (by omega)
  subst had
  have hb : Below w.heap.size w (w.alloc (.cells #[.int .i64 a, .int .i64 1, .slice (some ⟨g, 1, none⟩) n cap] 66)) := (Below.refl _ _).alloc (Nat.le_refl _) _
  have hcap2 : 2 ≤ cap := by omega
  have hn2 : 2 ≤ n := by omega
  have hz : ¬ cap = 0 := by omega
  have HU : Hid (UsedV (w.alloc (.cells #[.int .i64 a, .int .i64 1, .slice (some ⟨g, 1, none⟩) n cap] 66)) (.slice (some ⟨g, 1, none⟩) 2 cap) [nth l 1, nth l 2]) := hid (by
    refine ⟨_, _, rfl, hcap2, fun _ => ⟨g, 1, rfl, Nat.lt_of_lt_of_le (lt_of_block h5) hb.size, fun j hj => ?_⟩⟩
    rw [hb.cell (by exact lt_of_block h5), block_cell h5]
    have h' : j = 0 ∨ j = 1 := by simp at hj; omega
    rcases h' with rfl | rfl
    · exact h6 1 (by omega)
    · exact h6 2 (by omega))
  have HB : Hid _ := hid hb
  clear h5 h6 h7 h2 hb hl hll
  go_enter Tryd.func31, Tryd.ntmps31
  go_wp2
  go_ret
  exact ⟨_, rfl, HU.out, HB.out⟩

theorem uses_tok (a : Nat) (p : Value) (l : List ByteArray) (w : World) (hW : WordsV w p l) :
    Calls Tryd.prog 31 #[.agg #[.int .i64 a, .int .i64 0, p]] w fun e w' => ∃ v, e = .returned v ∧ UsedV w' v [] ∧ Below w.heap.size w w' := by
  obtain ⟨g, n, cap, ad, cs, rfl, _⟩ := hW
  have HB : Hid (Below w.heap.size w (w.alloc (.cells #[.int .i64 a, .int .i64 0, .slice ad n cap] 66))) := hid ((Below.refl _ _).alloc (Nat.le_refl _) _)
  go_enter Tryd.func31, Tryd.ntmps31
  go_wp2
  go_ret
  exact ⟨_, rfl, ⟨none, 0, rfl, Nat.le_refl _, fun h => by simp at h⟩, HB.out⟩

end Go.Proofs.YtjjggdcnpndgjaaDoor
