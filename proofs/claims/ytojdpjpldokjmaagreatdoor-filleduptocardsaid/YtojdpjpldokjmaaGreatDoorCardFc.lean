/- Proved: for every script of steps whose values and letters are at most 1048576 together: the program and the document's own answer, played side by side over databases of any number (each text that is no statement, CREATE and INSERT; each Save; each New), answer the same at each step, and what came out stays as its owner left it: rowmilllaw.Filled answers true. Conditions: the script's bulk is at most 1048576; beyond that the card's own (the listed package-level variables hold what the program's text lays). -/
import Derived.Test.YtojdpjpldokjmaaGreatDoorF39
import Derived.Test.YtojdpjpldokjmaaGreatDoorCards
import Derived.Test.YtojdpjpldokjmaaGreatDoorTie
set_option maxHeartbeats 60000000
set_option maxRecDepth 100000
namespace Go.Proofs.YtojdpjpldokjmaaGreatDoor
open Go.ChangeShapes Go.WideShapes Go.ChangeAt Go.RowKit
theorem filled_plain (f:FuncId)(fn:Func)(hf : Tryz.pinned.checked.prog.funcNamed Rows.filledUptoRow.func=some f)(hfn : Tryz.pinned.checked.prog.funcs[f]?=some fn) :
 true=Tryz.pinned.checked.prog.looks []/\∀ (j:Nat) t,fn.params[j]?=some t->Tryz.pinned.checked.prog.wantsStandIn t=false:=by
 obtain rfl:f = 3:=Option.some.inj ((show Tryz.prog.funcNamed Rows.filledUptoRow.func=some 3 by kernel_rfl).symm.trans hf) |>.symm
 obtain rfl:fn=Tryz.f3:=(Option.some.inj (Tryz.func3.symm.trans hfn)).symm
 refine ⟨by as_aux_lemma=>kernel_rfl,fun j t ht=>?_⟩
 rw [Tryz.params3] at ht
 obtain rfl:t = 22:=by simpa using Array.mem_of_getElem? ht
 exact (show Tryz.prog.wantsStandIn 22=false by as_aux_lemma=>kernel_rfl)
theorem filled_card:Rows.FilledUptoCardSaid :=
 Claim7.holds_tied_plain_at .later [] _ _ _ _ filled_said (fun _ h=>by cases h) (by as_aux_lemma=>kernel_rfl) (fun _ h=>by cases h) filledUpto_row_tie rfl ⟨rfl,rfl⟩ (by as_aux_lemma=>kernel_rfl) rfl filled_plain (by as_aux_lemma=>kernel_rfl)
end Go.Proofs.YtojdpjpldokjmaaGreatDoor
