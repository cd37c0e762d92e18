import Derived.Test.YtjjggdcnpndgjaaDoorGram
import Derived.Test.YtjjggdcnpndgjaaDoorWmade
namespace Go.Proofs.YtjjggdcnpndgjaaDoor
open Go.RowKit

set_option maxHeartbeats 400000 in
theorem hasToken_any (x : ByteArray) (G : Gr) (w : World) (B gb : Nat) (hG : GrAt w B gb G) (hn : G.toks.length ≤ 9223372036854775807) :
    Calls Tryd.prog 17 #[.pointer (some ⟨gb, 0, none⟩), .string x] w fun e w' => e = .returned (.bool (hasTok G.toks x)) ∧ w = w' := by
  obtain ⟨vT, vS, vN, vR, pv, hV⟩ := hG
  have hc := hV.cells.1
  have hT := hV.toks
  obtain ⟨nT, hnT⟩ : ∃ n, n = G.toks.length := ⟨_, rfl⟩
  rw [← hnT] at hT hn
  have HN : Hid (nT = G.toks.length) := hnT
  clear hnT
  clear hV
  rcases hT.2 with ⟨h1, h2⟩ | ⟨g, cap, cur, h1, _, _, hnc, _, _, _⟩
  · subst h1; subst h2
    go_enter Tryd.func17, Tryd.ntmps17
    go_wp2
    go_loop [5] (fun i => i = .int .i64 0) (fun i => 0)
    case atStart => rfl
    case round =>
      subst hrel
      go_wp2
      go_ret
      exact ⟨ret_bool (hasTok_no (fun j hj => by have := HN.out; omega)), rfl⟩
  · subst h1
    go_enter Tryd.func17, Tryd.ntmps17
    go_wp2
    go_loop [5] (fun i => ∃ k : Nat, k ≤ nT ∧ i = .int .i64 k ∧ Hid (∀ j, j < k → ((tokW G.toks j).toList == x.toList) = false)) (fun i => nT - (intOf i).toNat)
    case atStart => exact ⟨0, Nat.zero_le _, rfl, fun j hj => by omega⟩
    case round =>
      obtain ⟨k, hk, rfl, hno⟩ := hrel
      by_cases hlt : k < nT
      · have ck := tok_cell hT HN.out.symm hlt
        cases hb : ((tokW G.toks k).toList == x.toList)
        · go_wp2
          go_round
          case rel => exact ⟨k + 1, by omega, by go_num, upto_next hno.out hb⟩
          case measure => simp [intOf]; omega
        · go_wp2
          go_ret
          exact ⟨ret_bool (hasTok_yes (by have := HN.out; omega) hb), rfl⟩
      · go_wp2
        go_ret
        exact ⟨ret_bool (hasTok_no (fun j hj => hno.out j (by have := HN.out; omega))), rfl⟩

set_option maxHeartbeats 400000 in
theorem hasName_any (x : ByteArray) (G : Gr) (w : World) (B gb : Nat) (hG : GrAt w B gb G) (hn : G.names.length ≤ 9223372036854775807) :
    Calls Tryd.prog 19 #[.pointer (some ⟨gb, 0, none⟩), .string x] w fun e w' => e = .returned (.bool (hasNam G.names x)) ∧ w = w' := by
  obtain ⟨vT, vS, vN, vR, pv, hV⟩ := hG
  have hc := hV.cells.2.2.1
  have hT := hV.names
  obtain ⟨nT, hnT⟩ : ∃ n, n = G.names.length := ⟨_, rfl⟩
  rw [← hnT] at hT hn
  have HN : Hid (nT = G.names.length) := hnT
  clear hnT
  clear hV
  rcases hT.2 with ⟨h1, h2⟩ | ⟨g, cap, cur, h1, _, _, hnc, _, _, _⟩
  · subst h1; subst h2
    go_enter Tryd.func19, Tryd.ntmps19
    go_wp2
    go_loop [5] (fun i => i = .int .i64 0) (fun i => 0)
    case atStart => rfl
    case round =>
      subst hrel
      go_wp2
      go_ret
      exact ⟨ret_bool (hasNam_no (fun j hj => by have := HN.out; omega)), rfl⟩
  · subst h1
    have hs := strsAt_owned hT HN.out.symm
    go_enter Tryd.func19, Tryd.ntmps19
    go_wp2
    go_loop [5] (fun i => ∃ k : Nat, k ≤ nT ∧ i = .int .i64 k ∧ Hid (∀ j, j < k → ((nth G.names j).toList == x.toList) = false)) (fun i => nT - (intOf i).toNat)
    case atStart => exact ⟨0, Nat.zero_le _, rfl, fun j hj => by omega⟩
    case round =>
      obtain ⟨k, hk, rfl, hno⟩ := hrel
      by_cases hlt : k < nT
      · have ck : w.cell? ⟨g, k, none⟩ = some (.string (nth G.names k)) := by simpa using hs.2 k (by have := HN.out; omega)
        cases hb : ((nth G.names k).toList == x.toList)
        · go_wp2
          go_round
          case rel => exact ⟨k + 1, by omega, by go_num, upto_next hno.out hb⟩
          case measure => simp [intOf]; omega
        · go_wp2
          go_ret
          exact ⟨ret_bool (hasNam_yes (by have := HN.out; omega) hb), rfl⟩
      · go_wp2
        go_ret
        exact ⟨ret_bool (hasNam_no (fun j hj => hno.out j (by have := HN.out; omega))), rfl⟩
end Go.Proofs.YtjjggdcnpndgjaaDoor
