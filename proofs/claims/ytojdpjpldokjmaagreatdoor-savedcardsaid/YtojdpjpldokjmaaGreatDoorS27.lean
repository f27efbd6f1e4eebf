/- From a row's listed variables, and the world's shape, to the globals that Save leans on. -/
import Derived.Test.YtojdpjpldokjmaaGreatDoorS25
import Derived.Test.YtojdpjpldokjmaaGreatDoorS09
import Derived.Shelf.Vars
import Derived.Handed
set_option maxHeartbeats 60000000
set_option maxRecDepth 100000
namespace Go.Proofs.YtojdpjpldokjmaaGreatDoor
open Go.RowKit Go.Deep
set_option linter.unusedSimpArgs false
set_option linter.unusedVariables false
theorem gt_names:(Tryz.prog.globals[0]?).map (·.type) = some 142 := by kernel_rfl
theorem names_data:(Rows.laid_rowmill_rowmill_typeNames:DataW Unit) = .agg (([[],[73,78,84],[84,69,88,84],[66,79,79,76]]:List (List UInt8)).map fun x=>.lit (.string x)) := by rfl
theorem names_of {W:World} {n:String} {L:List (String × DataW Unit)} (h:laidMet Tryz.prog L W) (hm:(n,Rows.laid_rowmill_rowmill_typeNames) ∈ L) (hn : Tryz.prog.globalNamed n = some 0):NamesAt W := by
 obtain ⟨g,t,cs,fuel,p,hg,ht,hv,hd⟩ := Lib.laidMet.reads h hm
 obtain rfl := Option.some.inj (hn.symm.trans hg)
 obtain rfl := Option.some.inj (gt_names.symm.trans ht)
 rw [names_data] at hd
 intro k h1 h3
 obtain ⟨f',d,q,hds,hdr⟩ := Lib.array_elem Tryz.underlying142 hd k (by omega)
 rw [c_str,Nat.mul_one] at hdr
 obtain ⟨s,hcs,hx,_⟩ := DataW.trod_string Tryz.underlying9 hdr
 rw [World.var?_cell hg hv k]
 have h4 := take1 hcs
 cases hx
 have h5:some s.data.toList = some (Pl.typeText (k:Nat)) := by
   obtain rfl | rfl | rfl:k = 1 \/ k = 2 \/ k = 3 := by omega
   all_goals
     simp at hds
     rw [<- hds]
     rfl
 simp at h4
 rw [h4]
 simp at h5
 rw [<- h5]
theorem max_of {W:World} (h:W.ShapedOpen Tryz.prog):MaxAt W :=
 cell_of_shapedOpen_int (t := 3) (zero := #[.int .i64 0]) h (of_decide_eq_true (by as_aux_lemma=>kernel_rfl)) (by as_aux_lemma=>kernel_rfl) rfl (by as_aux_lemma=>kernel_rfl) (by as_aux_lemma=>kernel_rfl) Tryz.underlying3
variable {H:Type} {enc:TypeId × Value -> H}
theorem handed_laid {a:Assume} {C:Checked} {os:Os} {f:FuncId} {fn:Func} {s:ChangeSpec} {conds:List PathCond} {apart fresh handsOn again:Bool} {X:World -> Array Value -> Prop}
   (hX:∀ (w w':World) (args:Array Value),w.heap = w'.heap -> X w args -> X w' args)
   (own:ownKnob C.prog.godebug = none) (started:os.Started) (noInit:C.prog.inits.idxOf? f = none) (hfn:C.prog.funcs[f]? = some fn)
   (witness:∃ (w:World) (tape:Tape) (i:Input),w.os = os /\ (w.forCall tape i).Shaped C.prog /\ i.vars = [] /\ Input.okWide C.prog (w.forCall tape i) .any w.heap.size f i /\
     ((s.pre enc C.prog fn conds apart (w.forCall tape i).memory i.args /\ X (w.forCall tape i).memory i.args) /\ sizedMet enc C.prog fn (OpenSpec.ofChange s) apart (w.forCall tape i).memory i.args) /\ a.holds C.prog (lone (Frame.enter C.prog f i.args .normal) [] (w.forCall tape i)))
   (contract:∀ (W:World) (base:Nat) (args:Array Value) (ds gs:List (DataW H)) (before:List MemPlace),
     (∀ (j:Nat) t v,fn.params[j]? = some t -> args[j]? = some v -> Value.okWide C.prog W .any base t v) ->
     DataW.Whole enc C.prog fn.params.toList s.vars apart W args.toList ds gs before -> X W args -> W.ShapedOpen C.prog ->
     Calls C.prog f args W fun e W' => ∃ v,e = .returned v /\ s.post enc C.prog fn apart fresh handsOn again W args v W') :
   ReturnsInHanded a C os f .any (fun w args=>(s.pre enc C.prog fn conds apart w args /\ X w args) /\ sizedMet enc C.prog fn (OpenSpec.ofChange s) apart w args) (s.post enc C.prog fn apart fresh handsOn again) := by
 refine returnsInHanded_of_calls own started noInit witness ?_
 intro w tape i _ hsh _ hok hpre _
 obtain ⟨_,_,_,fn',hfn',_,_,_,_,hval⟩ := hok
 have e:fn' = fn := Option.some.inj (hfn'.symm.trans hfn)
 subst e
 obtain ⟨⟨⟨ds,gs,before,hw,_⟩,hx⟩,_⟩ := hpre
 refine (contract (w.forCall tape i) w.heap.size i.args ds gs before hval (DataW.Whole.of_heap (w' := w.forCall tape i) (by rfl) hw) (hX _ _ _ (by rfl) hx) hsh).mono fun e W' ⟨v,he,hp⟩=>?_
 subst he
 exact ChangeSpec.post_blind hp
end Go.Proofs.YtojdpjpldokjmaaGreatDoor
