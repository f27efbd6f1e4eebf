/- The row of 'rowmillkeep.Ordered', lifted from the walk. -/
import Derived.Test.YtojdpjpldokjmaaGreatDoorO24
import Derived.Test.YtojdpjpldokjmaaGreatDoorO27
import Derived.Test.YtojdpjpldokjmaaGreatDoorO29
import Derived.Test.YtojdpjpldokjmaaGreatDoorO28
import Derived.Test.YtojdpjpldokjmaaGreatDoorO30
import Derived.WalkKit
import Derived.ProofKit
import Derived.Lay
import Derived.SevenTiedAt
set_option maxHeartbeats 60000000
set_option maxRecDepth 100000
namespace Go.Proofs.YtojdpjpldokjmaaGreatDoor
open Go.ChangeShapes Go.WideShapes Go.ChangeAt Go.RowKit
theorem ordered_lifted (os:Os) (started:os.Started) (H:Type) (enc:TypeId × Value -> H) :
   ReturnsInHanded {} Tryz.checked os 7 .any (fun w args=>(Rows.orderedSpec.pre enc Tryz.prog Tryz.f7 [] false w args /\ laidMetH Tryz.prog Rows.orderedRow.laid w) /\ sizedMet enc Tryz.prog Tryz.f7 (OpenSpec.ofChange Rows.orderedSpec) false w args)
     (Rows.orderedSpec.post enc Tryz.prog Tryz.f7 false true false false) := by
 refine returnsInHanded_of_change_and (C := Tryz.checked) (X := fun w _=>laidMetH Tryz.prog Rows.orderedRow.laid w) (fun _ _ _ hh h=>h.of_heap hh) ownK started (by as_aux_lemma=>kernel_rfl) Tryz.func7
   (ChangeSpec.witness_shaped (enc := enc) (C := Tryz.checked) (os := os) (X := fun w _=>laidMetH Tryz.prog Rows.orderedRow.laid w) false (World.laidAll Tryz.prog os Rows.orderedRow.laid) #[.slice none 0 0,.int .i64 0,.int .i64 0,.int .i64 0] 8 (World.laidAll_os _ _ _)
     (World.shaped_of_ZipB (by as_aux_lemma=>kernel_rfl) (by as_aux_lemma=>kernel_rfl)) (by as_aux_lemma=>kernel_rfl) (by as_aux_lemma=>kernel_rfl) (by as_aux_lemma=>kernel_rfl)
     (by rw [MakeChecks.laidMetH_plain _ _ _ (by as_aux_lemma=>kernel_rfl)]; exact laidMet_laidAll _ (by as_aux_lemma=>kernel_rfl) (by as_aux_lemma=>kernel_rfl))) ?_
 intro W base args ds gs before hval0 hW _ _ hL _
 have hval:∀ (j:Nat) t v,Tryz.f7.params[j]? = some t -> args[j]? = some v -> Value.okWide Tryz.prog W .any base t v := hval0
 have hW' := hW
 obtain ⟨p,q,hA0,hV,rfl,_,_⟩ := hW
 have hA:DataW.TrodAll enc Tryz.prog W 0 (fun _=>true) true Tryz.f7.params.toList args.toList ds p := hA0
 rw [Tryz.params7] at hA hval
 obtain ⟨v0,v1,v2,v3,d0,d1,d2,d3,p0,p1,p2,p3,rfl,rfl,rfl,h0,h1,h2,h3⟩ := trodAll_four hA
 obtain ⟨rfl,rfl⟩ := trodVars_none hV
 have h0k := h0
 obtain ⟨raw,hx,wx⟩ := ints_of (hval 0 44 v0 rfl rfl) h0
 obtain ⟨z,rfl,rfl,rfl,wz⟩ := open_int Tryz.underlying3 (hval 1 3 v1 rfl rfl) h1
 obtain ⟨y,rfl,rfl,rfl,wy⟩ := open_int Tryz.underlying3 (hval 2 3 v2 rfl rfl) h2
 obtain ⟨x,rfl,rfl,rfl,wx3⟩ := open_int Tryz.underlying3 (hval 3 3 v3 rfl rfl) h3
 simp only [List.append_nil] at hW'
 have hlt:∀ x ∈ p0,x.block < W.heap.size := fun x hx=>by simpa using hW'.lt x (by simpa using hx)
 rw [MakeChecks.laidMetH_plain _ _ _ (by as_aux_lemma=>kernel_rfl)] at hL
 have hg:Globs W := globs_of hL (List.mem_of_getElem? (i := 6) rfl) (by as_aux_lemma=>kernel_rfl) (List.mem_of_getElem? (i := 7) rfl) (by as_aux_lemma=>kernel_rfl) (List.mem_of_getElem? (i := 4) rfl) (by as_aux_lemma=>kernel_rfl) (List.mem_of_getElem? (i := 2) rfl)
 refine (orderedK lexLib machLib (stable20 machLib) onceM raw z y x v0 W hx wx (in64_wf wz) (in64_wf wy) (in64_wf wx3) hg).mono fun e W' ⟨he,hb⟩=>?_
 subst he
 exact ⟨_,rfl,_,_,_,[],_,[],hW',trodAll_mk1 (shut_bool Tryz.underlying4 _),trodAll_mk4 (Below.trod Tryz.laidOut (by as_aux_lemma=>kernel_rfl) (of_decide_eq_true (by as_aux_lemma=>kernel_rfl)) h0k hb hlt) (shut_int Tryz.underlying3 wz) (shut_int Tryz.underlying3 wy) (shut_int Tryz.underlying3 wx3),rfl,hb.frame _,fun h=>by cases h⟩
theorem ordered_facts:joinedFacts Tryz.prog 7 Tryz.f7 Rows.orderedSpec Rows.orderedRow = true := by
 unfold joinedFacts
 simp only [Bool.and_eq_true]
 and_intros
 all_goals as_aux_lemma=>kernel_rfl
theorem ordered_said:Rows.OrderedSaid :=
 OpenClaim.holds_of_wide 7 Tryz.f7 rfl rfl rfl rfl rfl rfl rfl ⟨rfl,rfl,rfl,rfl,rfl⟩ rfl rfl rfl rfl rfl (by as_aux_lemma=>kernel_rfl) Tryz.func7 ordered_facts
   (of_decide_eq_true (by as_aux_lemma=>kernel_rfl)) (by unfold Func.isWrapper; first | (rw [if_pos (by decide +kernel)]; kernel_rfl) | (rw [if_neg (by decide +kernel)]; exact ⟨rfl,rfl⟩))
   (fun os started H enc _=>ordered_lifted os started H enc)
end Go.Proofs.YtojdpjpldokjmaaGreatDoor
