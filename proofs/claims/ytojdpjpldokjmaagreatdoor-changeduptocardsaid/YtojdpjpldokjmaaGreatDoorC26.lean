import Derived.Test.YtojdpjpldokjmaaGreatDoorRows
import Derived.ProofKit
import Derived.Lay
import Derived.SevenTiedAt
import Derived.Deep.DeepHandedRow
import Derived.WalkKit
import Derived.Test.YtojdpjpldokjmaaGreatDoorC00
set_option maxHeartbeats 0
set_option maxRecDepth 100000
set_option linter.all false
namespace Go.Proofs.YtojdpjpldokjmaaGreatDoor
open Go.ChangeAt Go.ChangeShapes Go.RowKit Go.WideShapes Proofs.Tryz Tryz
def Ce(b:Os){H:Type}(a:TypeId×Value->H):∃places,DataW.whole a prog ((World.laidAll prog b Rows.changedUptoRow.laid).forCall (λ_ _=>0) ⟨#[],#[.slice none 0 0],[]⟩).memory f4.params.toList Rows.changedSpec.vars false #[Value.slice none 0 0].toList 8=some ([.nil],[],places):=
 ⟨[],by as_aux_lemma=>kernel_rfl⟩
def yO(a:Os):Input.okWideB prog ((World.laidAll prog a Rows.changedUptoRow.laid).forCall (λ_ _=>0) ⟨#[],#[.slice none 0 0],[]⟩) 4 ⟨#[],#[.slice none 0 0],[]⟩=true:=by as_aux_lemma=>kernel_rfl
def Cc:joinedFacts prog 4 f4 (Rows.OpenSpec.upto Rows.changedSpec).bare Rows.changedUptoRow=true:=by
 unfold joinedFacts;simp only[X3]
 and_intros
 all_goals as_aux_lemma=>kernel_rfl
