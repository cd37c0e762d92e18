/- What the program's Facts tells of a made grammar's text. -/
import Derived.Test.YtjjggdcnpndgjaaGreatDoorJ17
import Derived.Test.YtjjggdcnpndgjaaGreatDoorJ19
namespace Go.Proofs.YtjjggdcnpndgjaaGreatDoor
open Go.RowKit Go.Shelf

theorem kfacts_any {m : Mk} (h : m.Good) (w : World) (hG : Glob w) (hT : TabAt 1 Lib.deBruijn32tab w) :
    Calls Tryz.prog 28 #[.string (textM m)] w fun e w' => ∃ fv ps, e = .returned (.tuple #[fv, .int .i64 0]) ∧ FcV w' w.heap.size fv (factsB (grM m) (ngM m) m.rules.length) ps ∧ Below w.heap.size w w' := by
  have he := read_text h
  have hs : (textM m).size ≤ 9223372036854775807 := by have := text_small h; omega
  have hg := gok_of (textM m) he
  have hR := rep_of hg
  have hS := fread_ok (textM m) w _ _ _ (fun W hb => sread_any (textM m) W (hG.below hb hG.size) hs he)
  have en : ngL (progL (scanA (textM m) 0).1) = ngM m := ngL_text h
  have hz : (wasteB (readB (textM m)).2.2 (ngL (progL (scanA (textM m) 0).1))).2 = 0 := by rw [en, waste_none h]
  have hF := dfacts_ok (textM m) w (ngL (progL (scanA (textM m) 0).1)) (twsL (progL (scanA (textM m) 0).1)) (pgL (codeL (progL (scanA (textM m) 0).1)) (progL (scanA (textM m) 0).1)) hT (by have := hG.size; omega) (factsB (readB (textM m)).2.2 (ngL (progL (scanA (textM m) 0).1)) (ngL (progL (scanA (textM m) 0).1)).nN) hR.ok (hS.mono (by
    rintro e w' ⟨hb, k1, k2, hf, h⟩
    have hsame := fault_same hR.ok hf (nmW_names hg)
    rcases h with ⟨h, _⟩ | ⟨_, k3, k4, n₀, kb, adT, capT, gN, capN, h3, s3, h4, s4, h5, h6, h7, h8⟩
    · rw [hsame] at h; exact absurd hz h
    · exact ⟨hb, k2, k3, k4, n₀, kb, adT, capT, gN, capN, h3, h4, rows_same hR.ok hR.leT ⟨hf, h3, s3, h4, s4⟩ hg.tws rfl (nmW_names hg) hz, h5, h6, h7, h8.1⟩))
  rw [en] at hF
  exact hF

end Go.Proofs.YtjjggdcnpndgjaaGreatDoor
