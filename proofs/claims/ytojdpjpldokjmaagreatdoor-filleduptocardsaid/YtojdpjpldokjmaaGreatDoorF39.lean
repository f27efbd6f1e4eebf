/- The row of 'rowmilllaw.Filled', where what it reads is of bounded bulk: lifted from the walk. -/
import Derived.Test.YtojdpjpldokjmaaGreatDoorF34
import Derived.Test.YtojdpjpldokjmaaGreatDoorF35
import Derived.Test.YtojdpjpldokjmaaGreatDoorF37
import Derived.Test.YtojdpjpldokjmaaGreatDoorF38
import Derived.WalkKit
import Derived.ProofKit
import Derived.Lay
import Derived.SevenTiedAt
import Derived.Deep.DeepHandedRow
set_option maxHeartbeats 60000000
set_option maxRecDepth 100000
namespace Go.Proofs.YtojdpjpldokjmaaGreatDoor
open Go.ChangeShapes Go.WideShapes Go.ChangeAt Go.RowKit
theorem filled_reads (os:Os){H:Type}(enc:TypeId × Value->H):∃ places,DataW.whole enc Tryz.prog ((World.laidAll Tryz.prog os Rows.filledUptoRow.laid).forCall (fun _ _=>0) ⟨#[],#[.slice none 0 0],[]⟩).memory Tryz.f3.params.toList Rows.filledSpec.vars false #[Value.slice none 0 0].toList 8=some ([.nil],[],places) :=
 ⟨[],by as_aux_lemma=>kernel_rfl⟩
theorem filled_okB (os:Os):Input.okWideB Tryz.prog ((World.laidAll Tryz.prog os Rows.filledUptoRow.laid).forCall (fun _ _=>0) ⟨#[],#[.slice none 0 0],[]⟩) 3 ⟨#[],#[.slice none 0 0],[]⟩=true:=by as_aux_lemma=>kernel_rfl
theorem filled_lifted (os:Os)(started:os.Started)(H:Type)(enc:TypeId × Value->H)(F:Stop.Interp) :
 ReturnsInHanded {} Tryz.checked os 3 .any ((Rows.OpenSpec.upto Rows.filledSpec).preRow enc Tryz.prog Tryz.f3 Rows.filledUptoRow.domain false Rows.filledUptoRow.laid) (((Rows.OpenSpec.upto Rows.filledSpec).at F).post enc Tryz.prog Tryz.f3 false true false false):=by
 obtain ⟨places,hx⟩:=filled_reads os enc
 refine returnsInHanded_of_row (C:=Tryz.checked) (s:=Rows.OpenSpec.upto Rows.filledSpec) ownK started (by as_aux_lemma=>kernel_rfl) Tryz.func3
  ⟨World.laidAll Tryz.prog os Rows.filledUptoRow.laid,fun _ _=>0,⟨#[],#[.slice none 0 0],[]⟩,World.laidAll_os _ _ _,World.shaped_of_ZipB (by as_aux_lemma=>kernel_rfl) (by as_aux_lemma=>kernel_rfl),(Input.okWide_of_okWideB (base:=0) (filled_okB os)).1,(Input.okWide_of_okWideB (filled_okB os)).2,
   OpenSpec.preRow_of_cond 8 hx (by as_aux_lemma=>kernel_rfl) (fun k hk=>by cases hk;kernel_rfl) (by as_aux_lemma=>kernel_rfl) (by rw [MakeChecks.laidMetH_plain _ _ _ (by as_aux_lemma=>kernel_rfl)];exact laidMet_laidAll _ (by as_aux_lemma=>kernel_rfl) (by as_aux_lemma=>kernel_rfl)),by
    simp only [Assume.holds]
    exact ⟨by simp,by simp,fun _=>Modest.zero,by simp,by simp⟩⟩ ?_
 intro W base args ds gs before hval0 hW _ hcond _ hL hsh _
 have hval:∀ (j:Nat) t v,Tryz.f3.params[j]?=some t->args[j]?=some v->Value.okWide Tryz.prog W .any base t v:=hval0
 have hW':=hW
 have hk:=hcond _ rfl
 obtain ⟨p,q,hA0,hV,rfl,_,_⟩:=hW
 have hA:DataW.TrodAll enc Tryz.prog W 0 (fun _=>true) true Tryz.f3.params.toList args.toList ds p:=hA0
 rw [Tryz.params3] at hA hval
 obtain ⟨v0,vs0,d0,ds0,p0,q0,hargs,rfl,rfl,h0,r0⟩:=trodAll_cons hA
 obtain ⟨rfl,rfl,rfl⟩:=trodAll_nil r0
 obtain rfl:args=#[v0]:=by cases args;simp_all
 obtain ⟨rfl,rfl⟩:=trodVars_none hV
 have h0k:=h0
 have hbk:Rows.uptoBulk d0<=1048576:=by
  have h:=of_decide_eq_true hk
  simp only [List.append_nil,Rows.uptoBulkAll] at h
  omega
 obtain ⟨ops,hx1,hx2,hx3⟩:=ops_of (hval 0 22 v0 rfl rfl) h0 hbk
 simp only [List.append_nil] at hW'
 have hlt:∀ x ∈ p0,x.block<W.heap.size:=fun x hx=>by simpa using hW'.lt x (by simpa using hx)
 rw [MakeChecks.laidMetH_plain _ _ _ (by as_aux_lemma=>kernel_rfl)] at hL
 have hg:Globs W:=globs_of hL (List.mem_of_getElem? (i:=6) rfl) (by as_aux_lemma=>kernel_rfl) (List.mem_of_getElem? (i:=7) rfl) (by as_aux_lemma=>kernel_rfl) (List.mem_of_getElem? (i:=4) rfl) (by as_aux_lemma=>kernel_rfl) (List.mem_of_getElem? (i:=2) rfl)
 have hs:SaveG W:=⟨pow_of hL (List.mem_of_getElem? (i:=2) rfl),max_of hsh,names_of hL (List.mem_of_getElem? (i:=8) rfl) (by as_aux_lemma=>kernel_rfl)⟩
 refine (filledK lexLib machLib saveLib ops v0 W hx1 hx2 hx3 hg hs).mono fun e W' ⟨he,hb⟩=>?_
 subst he
 exact ⟨_,rfl,_,_,_,[],_,[],hW',trodAll_mk1 (shut_bool Tryz.underlying4 _),trodAll_mk1 (Below.trod Tryz.laidOut (by as_aux_lemma=>kernel_rfl) (of_decide_eq_true (by as_aux_lemma=>kernel_rfl)) h0k hb hlt),rfl,hb.frame _,fun h=>by cases h⟩
theorem filled_facts:joinedFacts Tryz.prog 3 Tryz.f3 (Rows.OpenSpec.upto Rows.filledSpec).bare Rows.filledUptoRow=true:=by
 unfold joinedFacts
 simp only [Bool.and_eq_true]
 and_intros
 all_goals as_aux_lemma=>kernel_rfl
theorem filled_said:Rows.FilledUptoSaid :=
 OpenClaim.holds_of_cond 3 Tryz.f3 rfl rfl rfl rfl rfl rfl rfl ⟨rfl,rfl,rfl,rfl,rfl⟩ rfl rfl rfl rfl rfl (by as_aux_lemma=>kernel_rfl) Tryz.func3 filled_facts
  (of_decide_eq_true (by as_aux_lemma=>kernel_rfl)) (by unfold Func.isWrapper;first|(rw [if_pos (by decide +kernel)];kernel_rfl)|(rw [if_neg (by decide +kernel)];exact ⟨rfl,rfl⟩))
  (fun os started H enc _ F=>by rw [OpenClaim.pre_eq_preRow];exact filled_lifted os started H enc F)
end Go.Proofs.YtojdpjpldokjmaaGreatDoor
