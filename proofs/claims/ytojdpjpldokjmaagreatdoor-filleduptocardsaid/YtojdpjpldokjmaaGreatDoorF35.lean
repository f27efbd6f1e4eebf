/- From a row's listed variables, and the world's shape, to the globals that Save leans on. -/
import Derived.Test.YtojdpjpldokjmaaGreatDoorF32
import Derived.Test.YtojdpjpldokjmaaGreatDoorF14
import Derived.Shelf.Vars
import Derived.Handed
set_option maxHeartbeats 60000000
set_option maxRecDepth 100000
namespace Go.Proofs.YtojdpjpldokjmaaGreatDoor
open Go.RowKit Go.Deep
set_option linter.unusedSimpArgs false
set_option linter.unusedVariables false
theorem gt_names:(Tryz.prog.globals[0]?).map (·.type)=some 142:=by kernel_rfl
theorem names_data:(Rows.laid_rowmill_rowmill_typeNames:DataW Unit)=.agg (([[],[73,78,84],[84,69,88,84],[66,79,79,76]]:List (List UInt8)).map fun x=>.lit (.string x)):=by rfl
theorem names_of {W:World}{n:String}{L:List (String × DataW Unit)}(h:laidMet Tryz.prog L W)(hm:(n,Rows.laid_rowmill_rowmill_typeNames) ∈ L)(hn : Tryz.prog.globalNamed n=some 0):NamesAt W:=by
 obtain ⟨g,t,cs,fuel,p,hg,ht,hv,hd⟩:=Lib.laidMet.reads h hm
 obtain rfl:=Option.some.inj (hn.symm.trans hg)
 obtain rfl:=Option.some.inj (gt_names.symm.trans ht)
 rw [names_data] at hd
 intro k h1 h3
 obtain ⟨f',d,q,hds,hdr⟩:=Lib.array_elem Tryz.underlying142 hd k (by omega)
 rw [c_str,Nat.mul_one] at hdr
 obtain ⟨s,hcs,hx,_⟩:=DataW.trod_string Tryz.underlying9 hdr
 rw [World.var?_cell hg hv k]
 have h4:=take1 hcs
 cases hx
 have h5:some s.data.toList=some (Pl.typeText (k:Nat)):=by
  obtain rfl|rfl|rfl:k=1\/k=2\/k=3:=by omega
  all_goals
   simp at hds
   rw [<- hds]
   rfl
 simp at h4
 rw [h4]
 simp at h5
 rw [<- h5]
theorem max_of {W:World}(h:W.ShapedOpen Tryz.prog):MaxAt W :=
 cell_of_shapedOpen_int (t:=3) (zero:=#[.int .i64 0]) h (of_decide_eq_true (by as_aux_lemma=>kernel_rfl)) (by as_aux_lemma=>kernel_rfl) rfl (by as_aux_lemma=>kernel_rfl) (by as_aux_lemma=>kernel_rfl) Tryz.underlying3
variable {H:Type} {enc:TypeId × Value->H}
end Go.Proofs.YtojdpjpldokjmaaGreatDoor
