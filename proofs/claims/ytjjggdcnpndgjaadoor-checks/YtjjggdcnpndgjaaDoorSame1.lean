/- Pure: the reference's rules of a line and the program's; what is given and what is counted. -/
import Derived.Test.YtjjggdcnpndgjaaDoorPok
namespace Go.Proofs.YtjjggdcnpndgjaaDoor
open Go.RowKit

theorem longB_snoc (rs : List (List ByteArray)) (r : List ByteArray) : longB (rs ++ [r]) = max (longB rs) r.length := by
  unfold longB
  rw [List.foldl_append]; rfl

theorem rst_fold (R : List (ByteArray × List ByteArray)) (nm : ByteArray) : ∀ (l : List ByteArray) (done : List (List ByteArray)) (cur : List ByteArray),
    l.foldl (rstep nm) (R ++ done.map (fun r => (nm, r)), cur, decide (8 < longB (done ++ [cur]))) =
      (R ++ (l.foldl pstep (done, cur)).1.map (fun r => (nm, r)), (l.foldl pstep (done, cur)).2, decide (8 < longB ((l.foldl pstep (done, cur)).1 ++ [(l.foldl pstep (done, cur)).2])))
  | [], done, cur => rfl
  | x :: l, done, cur => by
    rw [List.foldl_cons, List.foldl_cons]
    by_cases hb : barB x = true
    · have e1 : rstep nm (R ++ done.map (fun r => (nm, r)), cur, decide (8 < longB (done ++ [cur]))) x = (R ++ (done ++ [cur]).map (fun r => (nm, r)), [], decide (8 < longB (done ++ [cur] ++ [[]]))) := by
        unfold rstep
        rw [if_pos hb, longB_snoc (done ++ [cur]) []]
        simp
      have e2 : pstep (done, cur) x = (done ++ [cur], []) := by unfold pstep; rw [if_pos hb]
      rw [e1, e2]
      exact rst_fold R nm l (done ++ [cur]) []
    · have e1 : rstep nm (R ++ done.map (fun r => (nm, r)), cur, decide (8 < longB (done ++ [cur]))) x = (R ++ done.map (fun r => (nm, r)), cur ++ [x], decide (8 < longB (done ++ [cur ++ [x]]))) := by
        unfold rstep
        rw [if_neg hb, longB_snoc, longB_snoc]
        simp only [Prod.mk.injEq, true_and]
        rw [Bool.eq_iff_iff]
        simp only [Bool.or_eq_true, decide_eq_true_eq, List.length_append, List.length_cons, List.length_nil]
        omega
      have e2 : pstep (done, cur) x = (done, cur ++ [x]) := by unfold pstep; rw [if_neg hb]
      rw [e1, e2]
      exact rst_fold R nm l done (cur ++ [x])

/-- The reference's rules of a line are the program's. -/
theorem rst_rules (R : List (ByteArray × List ByteArray)) (nm : ByteArray) (l : List ByteArray) :
    (rst R nm (l.drop 3)).1 ++ [(nm, (rst R nm (l.drop 3)).2.1)] = R ++ (rulesL l).map (fun r => (nm, r)) ∧ (rst R nm (l.drop 3)).2.2 = decide (8 < longB (rulesL l)) := by
  have h := rst_fold R nm (l.drop 3) [] []
  have h0 : decide (8 < longB (([] : List (List ByteArray)) ++ [[]])) = false := rfl
  rw [h0] at h
  simp only [List.map_nil, List.append_nil] at h
  unfold rst rulesL pst
  rw [h]
  exact ⟨by simp, rfl⟩

theorem cnt_pos (ws : List ByteArray) (u : ByteArray) : (0 < cnt ws u) ↔ (ws.any fun x => x.toList == u.toList) = true := by
  unfold cnt
  rw [List.length_pos_iff_exists_mem, List.any_eq_true]
  constructor
  · rintro ⟨y, hy⟩
    rw [List.mem_filter] at hy
    exact ⟨y, hy.1, by rw [ByteArray.toList_eq, ByteArray.toList_eq]; exact beq_iff_eq.2 (of_decide_eq_true hy.2)⟩
  · rintro ⟨y, hy, h⟩
    rw [ByteArray.toList_eq, ByteArray.toList_eq, beq_iff_eq] at h
    exact ⟨y, List.mem_filter.2 ⟨hy, decide_eq_true h⟩⟩

/-- A token is no name. -/
theorem tok_not_name {u v : ByteArray} (hu : tokB u = true) (hv : nameB v = true) : (v.toList == u.toList) = false := by
  rw [ByteArray.toList_eq, ByteArray.toList_eq, beq_eq_false_iff_ne]
  intro e
  unfold tokB madeB at hu
  unfold nameB madeB at hv
  rw [e] at hv
  simp only [Bool.and_eq_true, decide_eq_true_eq] at hu hv
  obtain ⟨x, hx⟩ := List.exists_mem_of_length_pos (show 0 < u.data.toList.length by omega)
  have h1 := hu.2.2
  have h2 := hv.2.2
  unfold allIn at h1 h2
  rw [List.all_eq_true] at h1 h2
  have h3 := h1 x hx
  have h4 := h2 x hx
  simp only [Bool.and_eq_true, decide_eq_true_eq] at h3 h4
  omega

theorem made_ne {u : ByteArray} {lo hi n : Int} (h : madeB u.data.toList lo hi n = true) : u.toList.isEmpty = false := by
  rw [ByteArray.toList_eq]
  unfold madeB at h
  simp only [Bool.and_eq_true, decide_eq_true_eq] at h
  cases hl : u.data.toList with
  | nil => rw [hl] at h; simp at h
  | cons x r => rfl

end Go.Proofs.YtjjggdcnpndgjaaDoor
