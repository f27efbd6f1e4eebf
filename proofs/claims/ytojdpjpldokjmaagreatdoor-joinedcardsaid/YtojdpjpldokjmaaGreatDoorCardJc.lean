/- Proved: for any raw numbers that two tables are made of and any of eight conditions, JOIN gives just the pairs of their rows for which the condition is TRUE, in order, LEFT JOIN the same and besides, at its place, each row of the first table that found none, with NULLs, and WHERE behind JOIN .. ON TRUE gives what JOIN .. ON the condition gives: rowmillkeep.Joined answers true. Conditions: none beyond the card's own (the listed package-level variables hold what the program's text lays). -/
import Derived.Test.YtojdpjpldokjmaaGreatDoorJ44
import Derived.Test.YtojdpjpldokjmaaGreatDoorCards
import Derived.Test.YtojdpjpldokjmaaGreatDoorTie
namespace Go.Proofs.YtojdpjpldokjmaaGreatDoor
open Go.ChangeShapes Go.WideShapes Go.ChangeAt Go.RowKit

set_option maxHeartbeats 8000000 in
theorem joined_plain (f : FuncId) (fn : Func) (hf : Tryz.pinned.checked.prog.funcNamed Rows.joinedRow.func = some f) (hfn : Tryz.pinned.checked.prog.funcs[f]? = some fn) :
    true = Tryz.pinned.checked.prog.looks [] ∧ ∀ (j : Nat) t, fn.params[j]? = some t → Tryz.pinned.checked.prog.wantsStandIn t = false := by
  obtain rfl : f = 11 := Option.some.inj ((show Tryz.prog.funcNamed Rows.joinedRow.func = some 11 by kernel_rfl).symm.trans hf) |>.symm
  obtain rfl : fn = Tryz.f11 := (Option.some.inj (Tryz.func11.symm.trans hfn)).symm
  refine ⟨by as_aux_lemma => kernel_rfl, fun j t ht => ?_⟩
  rw [Tryz.params11] at ht
  have ht2 : t = 44 ∨ t = 3 := by simpa using Array.mem_of_getElem? ht
  rcases ht2 with rfl | rfl
  · exact (show Tryz.prog.wantsStandIn 44 = false by as_aux_lemma => kernel_rfl)
  · exact (show Tryz.prog.wantsStandIn 3 = false by as_aux_lemma => kernel_rfl)
set_option maxHeartbeats 8000000 in
/-- THE CARD. -/
theorem joined_card : Rows.JoinedCardSaid :=
  Claim7.holds_tied_plain_at .later [] _ _ _ _ joined_said (fun _ h => by cases h) (by as_aux_lemma => kernel_rfl) (fun _ h => by cases h) joined_row_tie rfl ⟨rfl, rfl⟩ (by as_aux_lemma => kernel_rfl) rfl joined_plain (by as_aux_lemma => kernel_rfl)
end Go.Proofs.YtojdpjpldokjmaaGreatDoor
