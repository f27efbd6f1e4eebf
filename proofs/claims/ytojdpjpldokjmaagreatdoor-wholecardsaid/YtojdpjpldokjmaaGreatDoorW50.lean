/- The row of 'rowmillkeep.Whole', lifted from the walk. -/
import Derived.Test.YtojdpjpldokjmaaGreatDoorW43
import Derived.Test.YtojdpjpldokjmaaGreatDoorW45
import Derived.Test.YtojdpjpldokjmaaGreatDoorW46
import Derived.Test.YtojdpjpldokjmaaGreatDoorW48
import Derived.Test.YtojdpjpldokjmaaGreatDoorW44
import Derived.Test.YtojdpjpldokjmaaGreatDoorW49
import Derived.WalkKit
import Derived.ProofKit
import Derived.Lay
import Derived.SevenTiedAt
set_option maxHeartbeats 16000000
set_option maxRecDepth 100000
namespace Go.Proofs.YtojdpjpldokjmaaGreatDoor
open Go.ChangeShapes Go.WideShapes Go.ChangeAt Go.RowKit
theorem whole_lifted (os:Os) (started:os.Started) (H:Type) (enc:TypeId × Value -> H) :
   ReturnsInHanded {} Tryz.checked os 8 .any (fun w args=>(Rows.wholeSpec.pre enc Tryz.prog Tryz.f8 [] false w args /\ laidMetH Tryz.prog Rows.wholeRow.laid w) /\ sizedMet enc Tryz.prog Tryz.f8 (OpenSpec.ofChange Rows.wholeSpec) false w args)
     (Rows.wholeSpec.post enc Tryz.prog Tryz.f8 false true false false) := by
 refine handed_laid (C := Tryz.checked) (X := fun w _=>laidMetH Tryz.prog Rows.wholeRow.laid w) (fun _ _ _ hh h=>h.of_heap hh) ownK started (by as_aux_lemma=>kernel_rfl) Tryz.func8
   (ChangeSpec.witness_shaped (enc := enc) (C := Tryz.checked) (os := os) (X := fun w _=>laidMetH Tryz.prog Rows.wholeRow.laid w) false (World.laidAll Tryz.prog os Rows.wholeRow.laid) #[.slice none 0 0,.slice none 0 0,.int .i64 0] 8 (World.laidAll_os _ _ _)
     (World.shaped_of_ZipB (by as_aux_lemma=>kernel_rfl) (by as_aux_lemma=>kernel_rfl)) (by as_aux_lemma=>kernel_rfl) (by as_aux_lemma=>kernel_rfl) (by as_aux_lemma=>kernel_rfl)
     (by rw [MakeChecks.laidMetH_plain _ _ _ (by as_aux_lemma=>kernel_rfl)]; exact laidMet_laidAll _ (by as_aux_lemma=>kernel_rfl) (by as_aux_lemma=>kernel_rfl))) ?_
 intro W base args ds gs before hval0 hW hL hsh
 have hval:∀ (j:Nat) t v,Tryz.f8.params[j]? = some t -> args[j]? = some v -> Value.okWide Tryz.prog W .any base t v := hval0
 have hW' := hW
 obtain ⟨p,q,hA0,hV,rfl,_,_⟩ := hW
 have hA:DataW.TrodAll enc Tryz.prog W 0 (fun _=>true) true Tryz.f8.params.toList args.toList ds p := hA0
 rw [Tryz.params8] at hA hval
 obtain ⟨v0,v1,v2,d0,d1,d2,p0,p1,p2,rfl,rfl,rfl,h0,h1,h2⟩ := trodAll_three hA
 obtain ⟨rfl,rfl⟩ := trodVars_none hV
 have h0k := h0
 have h1k := h1
 obtain ⟨raw,hx,wx⟩ := ints_of (hval 0 44 v0 rfl rfl) h0
 obtain ⟨cnd,hy,wy⟩ := ints_of (hval 1 44 v1 rfl rfl) h1
 obtain ⟨z,rfl,rfl,rfl,wz⟩ := open_int Tryz.underlying3 (hval 2 3 v2 rfl rfl) h2
 simp only [List.append_nil] at hW'
 have hlt:∀ x ∈ p0,x.block < W.heap.size := fun x hx=>by simpa using hW'.lt x (List.mem_append_left _ hx)
 have hlt1:∀ x ∈ p1,x.block < W.heap.size := fun x hx=>by simpa using hW'.lt x (List.mem_append_right _ hx)
 rw [MakeChecks.laidMetH_plain _ _ _ (by as_aux_lemma=>kernel_rfl)] at hL
 have hg:Globs W := globs_of hL (List.mem_of_getElem? (i := 6) rfl) (by as_aux_lemma=>kernel_rfl) (List.mem_of_getElem? (i := 7) rfl) (by as_aux_lemma=>kernel_rfl) (List.mem_of_getElem? (i := 4) rfl) (by as_aux_lemma=>kernel_rfl)
 have hs:SaveG W := ⟨pow_of hL (List.mem_of_getElem? (i := 2) rfl),max_of hsh,names_of hL (List.mem_of_getElem? (i := 8) rfl) (by as_aux_lemma=>kernel_rfl)⟩
 refine (wholeM lexLib machLib saveLib (stable20 machLib) (updateM machLib) raw cnd z v0 v1 W hx hy wx wy (in64_wf wz) hg hs).mono fun e W' ⟨he,hb⟩=>?_
 subst he
 exact ⟨_,rfl,_,_,_,[],_,[],hW',trodAll_mk1 (shut_bool Tryz.underlying4 _),trodAll_mk3 (Below.trod Tryz.laidOut (by as_aux_lemma=>kernel_rfl) (of_decide_eq_true (by as_aux_lemma=>kernel_rfl)) h0k hb hlt) (Below.trod Tryz.laidOut (by as_aux_lemma=>kernel_rfl) (of_decide_eq_true (by as_aux_lemma=>kernel_rfl)) h1k hb hlt1) (shut_int Tryz.underlying3 wz),rfl,hb.frame _,fun h=>by cases h⟩
theorem whole_facts:joinedFacts Tryz.prog 8 Tryz.f8 Rows.wholeSpec Rows.wholeRow = true := by
 unfold joinedFacts
 simp only [Bool.and_eq_true]
 and_intros
 all_goals as_aux_lemma=>kernel_rfl
theorem whole_said:Rows.WholeSaid :=
 OpenClaim.holds_of_wide 8 Tryz.f8 rfl rfl rfl rfl rfl rfl rfl ⟨rfl,rfl,rfl,rfl,rfl⟩ rfl rfl rfl rfl rfl (by as_aux_lemma=>kernel_rfl) Tryz.func8 whole_facts
   (of_decide_eq_true (by as_aux_lemma=>kernel_rfl)) (by unfold Func.isWrapper; first | (rw [if_pos (by decide +kernel)]; kernel_rfl) | (rw [if_neg (by decide +kernel)]; exact ⟨rfl,rfl⟩))
   (fun os started H enc _=>whole_lifted os started H enc)
end Go.Proofs.YtojdpjpldokjmaaGreatDoor
