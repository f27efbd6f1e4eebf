/- Proved: for every script of steps whose values and letters are at most 1048576 together: the program and the document's own answer, played side by side over databases of any number (each text that is no statement, CREATE, INSERT, DELETE, UPDATE and SELECT; each Save; each New; each Load, of raw texts and of what was saved with a byte turned), answer the same at each step, and each list that came out stays as its owner left it: rowmilllaw.All answers true. Conditions: the script's bulk is at most 1048576; beyond that the card's own (the listed package-level variables hold what the program's text lays). -/
import Derived.Test.YtojdpjpldokjmaaGreatDoorC30
set_option maxHeartbeats 0
set_option maxRecDepth 100000
set_option linter.all false
namespace Go.Proofs.YtojdpjpldokjmaaGreatDoor
open Go.ChangeAt Go.ChangeShapes Go.RowKit Go.WideShapes Proofs.Tryz Tryz
def aak(f:FuncId)(a:Func)(d: pinned.checked.prog.funcNamed Rows.allUptoRow.func=some f)(b: pinned.checked.prog.funcs[f]?=some a):
 true=pinned.checked.prog.looks []/\∀(j:Nat) t,a.params[j]?=some t->pinned.checked.prog.wantsStandIn t=false:=by
 obtain rfl:f=5:=WD ((show prog.funcNamed Rows.allUptoRow.func=some 5 by kernel_rfl).symm.trans d) |>.symm;obtain rfl:a=f5:=(WD<|func5.symm.trans b).symm;refine⟨by as_aux_lemma=>kernel_rfl,λj t c=>?_⟩;rw[params5]at c;obtain rfl:t=22:=by simpa using Array.mem_of_getElem? c
 exact(show prog.wantsStandIn 22=false by as_aux_lemma=>kernel_rfl)
theorem all_card:Rows.AllUptoCardSaid:=
 Claim7.holds_tied_plain_at .later [] _ _ _ _ aao (λ_ h=>by cases h) (by as_aux_lemma=>kernel_rfl) (λ_ h=>by cases h) aaT rfl ⟨rfl,rfl⟩ (by as_aux_lemma=>kernel_rfl) rfl aak (by as_aux_lemma=>kernel_rfl)
