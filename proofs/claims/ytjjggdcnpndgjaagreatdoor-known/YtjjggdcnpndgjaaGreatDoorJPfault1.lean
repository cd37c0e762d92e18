/- slices.IndexFunc over the facts; fault's three tests. -/
import Derived.Test.YtjjggdcnpndgjaaGreatDoorJPwords1
namespace Go.Proofs.YtjjggdcnpndgjaaGreatDoor
open Go.RowKit Go.Shelf

/-- The first fact of which p says yes; -1 where there is none. -/
def idxF (p : Fa → Bool) (k : List Fa) : Int := match k.findIdx? p with
  | some i => i
  | none => -1

theorem idxF_at {p : Fa → Bool} {k : List Fa} {j : Nat} {a : Fa} (ha : k[j]? = some a) (hp : p a = true) (hno : ∀ m b, m < j → k[m]? = some b → p b = false) : idxF p k = j := by
  obtain ⟨hj, he⟩ := List.getElem?_eq_some_iff.1 ha
  have h : k.findIdx? p = some j := by
    rw [List.findIdx?_eq_some_iff_getElem]
    refine ⟨hj, by rw [he]; exact hp, fun m hm => ?_⟩
    have := hno m _ hm (List.getElem?_eq_getElem (by omega))
    rw [this]; simp
  unfold idxF; rw [h]

theorem idxF_no {p : Fa → Bool} {k : List Fa} (hno : ∀ (m : Nat) b, k[m]? = some b → p b = false) : idxF p k = -1 := by
  have h : k.findIdx? p = none := by
    rw [List.findIdx?_eq_none_iff]
    intro a ha
    obtain ⟨i, hi, rfl⟩ := List.mem_iff_getElem.1 ha
    exact hno i _ (List.getElem?_eq_getElem hi)
  unfold idxF; rw [h]

def faV (a : Fa) : Value := .agg #[.int .i64 a.least, .bool a.reached, .int .u32 a.first, .int .u32 a.follow]

set_option maxHeartbeats 1000000 in
set_option maxRecDepth 100000 in
theorem indexf_any (w : World) (kb n : Nat) (k : List Fa) (hK : KnV w kb n k) (hn : n ≤ 20) (cf : Nat) (p : Fa → Bool) (he : ∀ args W, (callFunc cf args).run Tryz.prog W = .ok (.enter cf args) W)
    (hcf : ∀ W a, Calls Tryz.prog cf #[faV a] W fun e w' => e = .returned (.bool (p a)) ∧ Below W.heap.size W w') :
    Calls Tryz.prog 160 #[.slice (some ⟨kb, 0, none⟩) n n, .func (.func cf) #[] #[]] w fun e w' => e = .returned (.int .i64 (idxF p k)) ∧ Below w.heap.size w w' := by
  have HK : Hid _ := hid hK
  have HC : Hid _ := hid hcf
  clear hK hcf
  go_enter Tryz.func160, Tryz.ntmps160
  go_wp2
  go_loopw [8] (fun i wr => ∃ j : Nat, j ≤ n ∧ i = .int .i64 j ∧ Hid (∀ m b, m < j → k[m]? = some b → p b = false) ∧ Hid (Below w.heap.size w wr)) (fun i _ => n - (intOf i).toNat)
  case atStart => exact ⟨0, Nat.zero_le _, rfl, fun m b h => by omega, Below.refl _ _⟩
  case round =>
    obtain ⟨j, hj, rfl, hno, hB⟩ := hrel
    by_cases hlt : j < n
    · have HKr : Hid (KnV wr kb n k) := hid (HK.out.keeps (Keeps.of_below hB.out []) (by simp))
      obtain ⟨a, ha⟩ : ∃ a, k[j]? = some a := ⟨_, List.getElem?_eq_getElem (by rw [HK.out.1]; exact hlt)⟩
      obtain ⟨c0, c1, c2, c3⟩ := HKr.out.cells ha
      have CC := HC.out wr a
      unfold faV at CC
      have HA : Hid (k[j]? = some a) := hid ha
      clear ha
      cases hp : p a
      · rw [hp] at CC
        have HE : Hid (∀ m b, m < j + 1 → k[m]? = some b → p b = false) := hid fun m b hm hb => by
          rcases Nat.lt_or_ge m j with h | h
          · exact hno.out m b h hb
          · obtain rfl : m = j := by omega
            rw [HA.out] at hb; injection hb with hb; rw [← hb]; exact hp
        go_wp2_with (refine CC.mono ?_; rintro e w2 ⟨rfl, hb2⟩; have HB2 : Hid _ := hid (hB.out.trans (hb2.mono hB.out.size)); clear hb2 CC)
        go_roundw
        case rel => exact ⟨j + 1, by omega, by go_num, HE, HB2⟩
        case measure => simp [intOf]; omega
      · rw [hp] at CC
        have HE : Hid (idxF p k = j) := hid (idxF_at HA.out hp hno.out)
        go_wp2_with (refine CC.mono ?_; rintro e w2 ⟨rfl, hb2⟩; have HB2 : Hid _ := hid (hB.out.trans (hb2.mono hB.out.size)); clear hb2 CC)
        go_ret
        exact ⟨by rw [HE.out]; rfl, HB2.out⟩
    · have HE : Hid (idxF p k = -1) := hid (idxF_no fun m b hb => hno.out m b (by have h1 := (List.getElem?_eq_some_iff.1 hb).1; have h2 := HK.out.1; omega) hb)
      go_wp2
      go_ret
      exact ⟨by rw [HE.out]; rfl, hB.out⟩

theorem fault1_any (W : World) (a : Fa) : Calls Tryz.prog 157 #[faV a] W fun e w' => e = .returned (.bool ((a.least : Int) == 202)) ∧ Below W.heap.size W w' := by
  unfold faV
  go_enter Tryz.func157, Tryz.ntmps157
  go_wp2
  go_ret
  exact ⟨rfl, (Below.refl _ _).alloc (Nat.le_refl _) _⟩

theorem fault2_any (W : World) (a : Fa) : Calls Tryz.prog 158 #[faV a] W fun e w' => e = .returned (.bool (!a.reached)) ∧ Below W.heap.size W w' := by
  unfold faV
  go_enter Tryz.func158, Tryz.ntmps158
  go_wp2
  go_ret
  exact ⟨rfl, (Below.refl _ _).alloc (Nat.le_refl _) _⟩

theorem fault3_any (W : World) (a : Fa) : Calls Tryz.prog 159 #[faV a] W fun e w' => e = .returned (.bool ((a.least : Int) == 201)) ∧ Below W.heap.size W w' := by
  unfold faV
  go_enter Tryz.func159, Tryz.ntmps159
  go_wp2
  go_ret
  exact ⟨rfl, (Below.refl _ _).alloc (Nat.le_refl _) _⟩

end Go.Proofs.YtjjggdcnpndgjaaGreatDoor
