/- (*Grammar).tails, walked. -/
import Derived.Test.YtjjggdcnpndgjaaGreatDoorJ8
namespace Go.Proofs.YtjjggdcnpndgjaaGreatDoor
open Go.RowKit

theorem PsOk.drop {N : NG} {ps : List Pt} (h : PsOk N ps) (k : Nat) : PsOk N (ps.drop k) := ⟨fun n hn => h.1 n (List.mem_of_mem_drop hn), fun n hn => h.2 n (List.mem_of_mem_drop hn)⟩

theorem PsRep.drop {G : Gr} {ws : List ByteArray} {ps : List Pt} (h : PsRep G ws ps) (k : Nat) : PsRep G (ws.drop k) (ps.drop k) := by
  refine ⟨by rw [List.length_drop, List.length_drop, h.1], fun j p hp => ?_⟩
  rw [List.getElem?_drop] at hp
  have := h.2 (k + j) p hp
  unfold nth at this ⊢
  rw [List.getD_eq_getElem?_getD, List.getElem?_drop]
  rwa [List.getD_eq_getElem?_getD] at this

end Go.Proofs.YtjjggdcnpndgjaaGreatDoor
