/- Proved: for any raw numbers that two tables are made of, any text and any number put into one of them besides: what Save writes is read by Load as the same rows, saved again it is the same bytes, the loaded database is another than the first (what is taken out of it stays in the first), and what was saved with a byte more behind it, or without its first byte, is refused by Load: rowmillkeep.Saved answers true. Conditions: none beyond the card's own (the listed package-level variables hold what the program's text lays). -/
import Derived.Test.YtojdpjpldokjmaaGreatDoorS31
import Derived.Test.YtojdpjpldokjmaaGreatDoorCards
import Derived.Test.YtojdpjpldokjmaaGreatDoorTie
set_option maxHeartbeats 60000000
set_option maxRecDepth 100000
namespace Go.Proofs.YtojdpjpldokjmaaGreatDoor
open Go.ChangeShapes Go.WideShapes Go.ChangeAt Go.RowKit
theorem saved_plain (f:FuncId) (fn:Func) (hf : Tryz.pinned.checked.prog.funcNamed Rows.savedRow.func = some f) (hfn : Tryz.pinned.checked.prog.funcs[f]? = some fn) :
   true = Tryz.pinned.checked.prog.looks [] /\ ∀ (j:Nat) t,fn.params[j]? = some t -> Tryz.pinned.checked.prog.wantsStandIn t = false := by
 obtain rfl:f = 12 := Option.some.inj ((show Tryz.prog.funcNamed Rows.savedRow.func = some 12 by kernel_rfl).symm.trans hf) |>.symm
 obtain rfl:fn = Tryz.f12 := (Option.some.inj (Tryz.func12.symm.trans hfn)).symm
 refine ⟨by as_aux_lemma=>kernel_rfl,fun j t ht=>?_⟩
 rw [Tryz.params12] at ht
 have ht2:t = 44 \/ t = 9 \/ t = 3 := by simpa using Array.mem_of_getElem? ht
 rcases ht2 with rfl | rfl | rfl
 · exact (show Tryz.prog.wantsStandIn 44 = false by as_aux_lemma=>kernel_rfl)
 · exact (show Tryz.prog.wantsStandIn 9 = false by as_aux_lemma=>kernel_rfl)
 · exact (show Tryz.prog.wantsStandIn 3 = false by as_aux_lemma=>kernel_rfl)
theorem saved_card:Rows.SavedCardSaid :=
 Claim7.holds_tied_plain_at .later [] _ _ _ _ saved_said (fun _ h=>by cases h) (by as_aux_lemma=>kernel_rfl) (fun _ h=>by cases h) saved_row_tie rfl ⟨rfl,rfl⟩ (by as_aux_lemma=>kernel_rfl) rfl saved_plain (by as_aux_lemma=>kernel_rfl)
end Go.Proofs.YtojdpjpldokjmaaGreatDoor
