import Derived.Test.YtojdpjpldokjmaaGreatDoorCards
import Derived.LaidByTextLater
import Derived.LaidOnce
import Derived.WalkKit
import Derived.ProofKit
import Derived.Lay
import Derived.SevenTiedAt
import Derived.Deep.DeepHandedRow
import Derived.Test.YtojdpjpldokjmaaGreatDoorC00
set_option maxHeartbeats 0
set_option maxRecDepth 100000
set_option linter.all false
namespace Go.Proofs.YtojdpjpldokjmaaGreatDoor
open Go.ChangeAt Go.ChangeShapes Go.RowKit Go.WideShapes Proofs.Tryz Tryz
def aaR: prog.laidByTextLater (Rows.allUptoRow.laid.take 9) (Rows.allUptoCard.laidKinds.take 9) true:=
 Program.laidByTextLater_by_one 104 8 65 (by kernel_rfl) (by kernel_rfl) (by kernel_rfl) (by kernel_rfl) (by kernel_rfl) (by kernel_rfl) (λ_ _=>by kernel_rfl)
def aaS: pinned.checked.prog.listedFits Rows.allUptoRow.laid=true:=by
 unfold Program.listedFits;rw[show pinned.checked.prog.headLifts.contains "ownunsafe"=false by kernel_rfl]
 kernel_rfl
def aaT:Rows.allUptoRow.laidByTextAt .later pinned Rows.allUptoCard.laidKinds true:=
 OpenClaim.laidByTextAt_pinned rfl rfl aaR rfl rfl rfl rfl (λy a e=>by
  simp only[Rows.allUptoRow,Rows.allUptoCard,Yk,List.zip_nil_right,V8,List.mem_nil_iff,or_false]at a;rcases a with rfl|rfl|rfl|rfl|rfl|rfl|rfl|rfl|rfl|rfl|rfl
  all_goals first|cases e;done|exact⟨by kernel_rfl,by kernel_rfl⟩) aaS
def aal(b:Os){H:Type}(a:TypeId×Value->H):∃places,DataW.whole a prog ((World.laidAll prog b Rows.allUptoRow.laid).forCall (λ_ _=>0) ⟨#[],#[.slice none 0 0],[]⟩).memory f5.params.toList Rows.allSpec.vars false #[Value.slice none 0 0].toList 8=some ([.nil],[],places):=
 ⟨[],by as_aux_lemma=>kernel_rfl⟩
def aag(a:Os):Input.okWideB prog ((World.laidAll prog a Rows.allUptoRow.laid).forCall (λ_ _=>0) ⟨#[],#[.slice none 0 0],[]⟩) 5 ⟨#[],#[.slice none 0 0],[]⟩=true:=by as_aux_lemma=>kernel_rfl
def aaj:joinedFacts prog 5 f5 (Rows.OpenSpec.upto Rows.allSpec).bare Rows.allUptoRow=true:=by
 unfold joinedFacts;simp only[X3]
 and_intros
 all_goals as_aux_lemma=>kernel_rfl
