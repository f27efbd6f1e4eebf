/- The row of 'rowmillkeep.Saved', lifted from the walk. -/
import Derived.Test.YtojdpjpldokjmaaGreatDoorS24
import Derived.Test.YtojdpjpldokjmaaGreatDoorS26
import Derived.Test.YtojdpjpldokjmaaGreatDoorS27
import Derived.Test.YtojdpjpldokjmaaGreatDoorS29
import Derived.Test.YtojdpjpldokjmaaGreatDoorS25
import Derived.Test.YtojdpjpldokjmaaGreatDoorS30
import Derived.ChangeMaps5
import Derived.WalkKit
import Derived.ProofKit
import Derived.Lay
import Derived.SevenTiedAt
set_option maxHeartbeats 60000000
set_option maxRecDepth 100000
namespace Go.Proofs.YtojdpjpldokjmaaGreatDoor
open Go.ChangeShapes Go.WideShapes Go.ChangeAt Go.RowKit
theorem saved_lifted (os:Os) (started:os.Started) (H:Type) (enc:TypeId × Value -> H) :
   ReturnsInHanded {} Tryz.checked os 12 .any (fun w args=>(Rows.savedSpec.pre enc Tryz.prog Tryz.f12 [] false w args /\ laidMetH Tryz.prog Rows.savedRow.laid w) /\ sizedMet enc Tryz.prog Tryz.f12 (OpenSpec.ofChange Rows.savedSpec) false w args)
     (Rows.savedSpec.post enc Tryz.prog Tryz.f12 false true false false) := by
 refine handed_laid (C := Tryz.checked) (X := fun w _=>laidMetH Tryz.prog Rows.savedRow.laid w) (fun _ _ _ hh h=>h.of_heap hh) ownK started (by as_aux_lemma=>kernel_rfl) Tryz.func12
   (ChangeSpec.witness_shaped (enc := enc) (C := Tryz.checked) (os := os) (X := fun w _=>laidMetH Tryz.prog Rows.savedRow.laid w) false (World.laidAll Tryz.prog os Rows.savedRow.laid) #[.slice none 0 0,.string ⟨#[]⟩,.int .i64 0] 8 (World.laidAll_os _ _ _)
     (World.shaped_of_ZipB (by as_aux_lemma=>kernel_rfl) (by as_aux_lemma=>kernel_rfl)) (by as_aux_lemma=>kernel_rfl) (by as_aux_lemma=>kernel_rfl) (by as_aux_lemma=>kernel_rfl)
     (by rw [MakeChecks.laidMetH_plain _ _ _ (by as_aux_lemma=>kernel_rfl)]; exact laidMet_laidAll _ (by as_aux_lemma=>kernel_rfl) (by as_aux_lemma=>kernel_rfl))) ?_
 intro W base args ds gs before hval0 hW hL hsh
 have hval:∀ (j:Nat) t v,Tryz.f12.params[j]? = some t -> args[j]? = some v -> Value.okWide Tryz.prog W .any base t v := hval0
 have hW' := hW
 obtain ⟨p,q,hA0,hV,rfl,_,_⟩ := hW
 have hA:DataW.TrodAll enc Tryz.prog W 0 (fun _=>true) true Tryz.f12.params.toList args.toList ds p := hA0
 rw [Tryz.params12] at hA hval
 obtain ⟨v0,v1,v2,d0,d1,d2,p0,p1,p2,rfl,rfl,rfl,h0,h1,h2⟩ := trodAll_three hA
 obtain ⟨rfl,rfl⟩ := trodVars_none hV
 have h0k := h0
 obtain ⟨raw,hx,wx⟩ := ints_of (hval 0 44 v0 rfl rfl) h0
 obtain ⟨s,rfl,rfl,rfl,ws⟩ := Go.ChangeMaps.open_string Tryz.underlying9 (hval 1 9 v1 rfl rfl) h1
 obtain ⟨z,rfl,rfl,rfl,wz⟩ := open_int Tryz.underlying3 (hval 2 3 v2 rfl rfl) h2
 simp only [List.append_nil] at hW'
 have hlt:∀ x ∈ p0,x.block < W.heap.size := fun x hx=>by simpa using hW'.lt x (by simpa using hx)
 rw [MakeChecks.laidMetH_plain _ _ _ (by as_aux_lemma=>kernel_rfl)] at hL
 have hg:Globs W := globs_of hL (List.mem_of_getElem? (i := 6) rfl) (by as_aux_lemma=>kernel_rfl) (List.mem_of_getElem? (i := 7) rfl) (by as_aux_lemma=>kernel_rfl) (List.mem_of_getElem? (i := 4) rfl) (by as_aux_lemma=>kernel_rfl) (List.mem_of_getElem? (i := 2) rfl)
 have hs:SaveG W := ⟨pow_of hL (List.mem_of_getElem? (i := 2) rfl),max_of hsh,names_of hL (List.mem_of_getElem? (i := 8) rfl) (by as_aux_lemma=>kernel_rfl)⟩
 refine (savedK lexLib machLib saveLib (stable20 machLib) raw s z v0 W hx wx (by have := ws; unfold maxLen at this; omega) (in64_wf wz) hg hs).mono fun e W' ⟨he,hb⟩=>?_
 subst he
 exact ⟨_,rfl,_,_,_,[],_,[],hW',trodAll_mk1 (shut_bool Tryz.underlying4 _),trodAll_mk3 (Below.trod Tryz.laidOut (by as_aux_lemma=>kernel_rfl) (of_decide_eq_true (by as_aux_lemma=>kernel_rfl)) h0k hb hlt) (Go.ChangeMaps.shut_string Tryz.underlying9 ws) (shut_int Tryz.underlying3 wz),rfl,hb.frame _,fun h=>by cases h⟩
theorem saved_facts:joinedFacts Tryz.prog 12 Tryz.f12 Rows.savedSpec Rows.savedRow = true := by
 unfold joinedFacts
 simp only [Bool.and_eq_true]
 and_intros
 all_goals as_aux_lemma=>kernel_rfl
theorem saved_said:Rows.SavedSaid :=
 OpenClaim.holds_of_wide 12 Tryz.f12 rfl rfl rfl rfl rfl rfl rfl ⟨rfl,rfl,rfl,rfl,rfl⟩ rfl rfl rfl rfl rfl (by as_aux_lemma=>kernel_rfl) Tryz.func12 saved_facts
   (of_decide_eq_true (by as_aux_lemma=>kernel_rfl)) (by unfold Func.isWrapper; first | (rw [if_pos (by decide +kernel)]; kernel_rfl) | (rw [if_neg (by decide +kernel)]; exact ⟨rfl,rfl⟩))
   (fun os started H enc _=>saved_lifted os started H enc)
end Go.Proofs.YtojdpjpldokjmaaGreatDoor
