/- From a row's listed variables to the globals that the program leans on. -/
import Derived.Test.YtojdpjpldokjmaaGreatDoorF18
import Derived.Test.YtojdpjpldokjmaaGreatDoorRows
import Derived.Lib.LaidU8
set_option maxHeartbeats 60000000
set_option maxRecDepth 100000
namespace Go.Proofs.YtojdpjpldokjmaaGreatDoor
open Go.RowKit Go.Deep
set_option linter.unusedSimpArgs false
set_option linter.unusedVariables false
theorem gt_spell:(Tryz.prog.globals[1]?).map (·.type)=some 319:=by kernel_rfl
theorem gt_rules:(Tryz.prog.globals[9]?).map (·.type)=some 437:=by kernel_rfl
theorem gt_err:(Tryz.prog.globals[8]?).map (·.type)=some 89:=by kernel_rfl
theorem c_str : Tryz.prog.cellsOf 9=1:=by kernel_rfl
theorem c_rule : Tryz.prog.cellsOf 436=3:=by kernel_rfl
theorem u_err:∃ ms,Tryz.prog.underlying 89=some (.interface ms):=⟨_,Tryz.underlying89⟩
theorem u_rule:∃ fs,Tryz.prog.underlying 436=some (.struct fs)/\fs.size=3/\∀ (i:Nat)(f:Field),fs[i]?=some f->Tryz.prog.underlying f.type=some (.int .i64)/\f.offset=i/\Tryz.prog.cellsOf f.type=1:=by
 refine ⟨_,Tryz.underlying436,rfl,fun i f hf=>?_⟩
 match i,hf with
 | 0,hf=>simp at hf;subst hf;exact ⟨by kernel_rfl,rfl,by kernel_rfl⟩
 | 1,hf=>simp at hf;subst hf;exact ⟨by kernel_rfl,rfl,by kernel_rfl⟩
 | 2,hf=>simp at hf;subst hf;exact ⟨by kernel_rfl,rfl,by kernel_rfl⟩
 | i+3,hf=>simp at hf
theorem spell_data:(Rows.laid_rowmill_lexer_spellings:DataW Unit)=.agg ((List.range 51).map fun k=>.lit (.string (Pl.spell k))):=by rfl
def ruleZ (op:Nat):List Int:=if 2<=op then [((op+2:Nat):Int),Pl.takes op,Pl.gives op] else [0,0,0]
theorem rules_data:(Rows.laid_rowmill_machine_rules:DataW Unit)=.agg ((List.range 19).map fun op=>.agg ((ruleZ op).map fun z=>.lit (.int .i64 z))):=by rfl
theorem take1 {cs:List Value}{k:Nat}{v:Value}(h:(cs.drop k).take 1=[v]):cs[k]?=some v:=by
 have:=congrArg (·[0]?) h
 simpa [List.getElem?_take,List.getElem?_drop] using this
theorem take3 {cs:List Value}{k:Nat}{a b c:Value}(h:(cs.drop k).take 3=[a,b,c]):cs[k]?=some a/\cs[k+1]?=some b/\cs[k+2]?=some c:=by
 have h0:=congrArg (·[0]?) h
 have h1:=congrArg (·[1]?) h
 have h2:=congrArg (·[2]?) h
 simp [List.getElem?_take,List.getElem?_drop] at h0 h1 h2
 exact ⟨h0,h1,h2⟩
theorem spell_of {W:World}{n:String}{L:List (String × DataW Unit)}(h:laidMet Tryz.prog L W)(hm:(n,Rows.laid_rowmill_lexer_spellings) ∈ L)(hn : Tryz.prog.globalNamed n=some 1):SpellAt W:=by
 obtain ⟨g,t,cs,fuel,p,hg,ht,hv,hd⟩:=Lib.laidMet.reads h hm
 obtain rfl:=Option.some.inj (hn.symm.trans hg)
 obtain rfl:=Option.some.inj (gt_spell.symm.trans ht)
 rw [spell_data] at hd
 intro k hk
 obtain ⟨f',d,q,hds,hdr⟩:=Lib.array_elem Tryz.underlying319 hd k hk
 rw [c_str,Nat.mul_one] at hdr
 obtain ⟨s,hcs,hx,_⟩:=DataW.trod_string Tryz.underlying9 hdr
 simp [hk] at hds
 cases hx
 simp at hds
 rw [World.var?_cell hg hv k]
 have:=take1 hcs
 simp at this
 rw [this]
 congr 2
 rw [hds]
theorem rules_of {W:World}{n:String}{L:List (String × DataW Unit)}(h:laidMet Tryz.prog L W)(hm:(n,Rows.laid_rowmill_machine_rules) ∈ L)(hn : Tryz.prog.globalNamed n=some 9):RulesAt W:=by
 obtain ⟨g,t,cs,fuel,p,hg,ht,hv,hd⟩:=Lib.laidMet.reads h hm
 obtain rfl:=Option.some.inj (hn.symm.trans hg)
 obtain rfl:=Option.some.inj (gt_rules.symm.trans ht)
 rw [rules_data] at hd
 intro op h2 h18
 obtain ⟨f',d,q,hds,hdr⟩:=Lib.array_elem Tryz.underlying437 hd op (by omega)
 rw [c_rule] at hdr
 simp [show op<19 by omega] at hds
 subst hds
 obtain ⟨fs,hu,hsz,hf⟩:=u_rule
 have hc:=Lib.ints_of_struct hu hf (by rw [hsz];exact c_rule) hdr
 unfold ruleZ at hc
 rw [if_pos h2] at hc
 obtain ⟨a,b,c⟩:=take3 hc
 rw [World.var?_cell hg hv,World.var?_cell hg hv,World.var?_cell hg hv]
 simp at a b c
 exact ⟨a,b,c⟩
theorem err_of {W:World}{n:String}{L:List (String × DataW Unit)}(h:laidMet Tryz.prog L W)(hm:(n,Rows.laid_strconv_ErrRange) ∈ L)(hn : Tryz.prog.globalNamed n=some 8):ErrAt W:=by
 obtain ⟨g,t,cs,fuel,p,hg,ht,hv,hd⟩:=Lib.laidMet.reads h hm
 obtain rfl:=Option.some.inj (hn.symm.trans hg)
 obtain rfl:=Option.some.inj (gt_err.symm.trans ht)
 unfold Rows.laid_strconv_ErrRange at hd
 obtain ⟨ms,hi⟩:=u_err
 obtain ⟨f1,u,v,hcs,_⟩:=iface_of_trod hi hd
 refine ⟨u,v,?_⟩
 rw [World.var?_cell hg hv 0]
 have:=congrArg (·[0]?) hcs
 simpa using this
theorem gt_pow:(Tryz.prog.globals[5]?).map (·.type)=some 406:=by kernel_rfl
theorem c_u64 : Tryz.prog.cellsOf 374=1:=by kernel_rfl
theorem c_pow : Tryz.prog.cellsOf 406=20:=by kernel_rfl
theorem pow_data:(Rows.laid_internal_strconv_uint64pow10:DataW Unit)=Lib.tabData .u64 Lib.pow10Tab:=by rfl
theorem pow_of {W:World}{L:List (String × DataW Unit)}(h:laidMet Tryz.prog L W)(hm:("internal/strconv.uint64pow10",Rows.laid_internal_strconv_uint64pow10) ∈ L):PowAt W:=by
 obtain ⟨g,t,cs,fuel,p,hg,ht,hv,hd⟩:=Lib.laidMet.reads h hm
 obtain rfl:=Option.some.inj (pow_glob.symm.trans hg)
 obtain rfl:=Option.some.inj (gt_pow.symm.trans ht)
 rw [pow_data] at hd
 unfold PowAt Lib.TabIs
 rw [hv,<- Lib.cells_of_tab Tryz.underlying406 Tryz.underlying374 c_u64 c_pow hd]
theorem globs_of {W:World}{n1 n2 n3:String}{L:List (String × DataW Unit)}(h:laidMet Tryz.prog L W)(h1:(n1,Rows.laid_rowmill_lexer_spellings) ∈ L)(k1 : Tryz.prog.globalNamed n1=some 1)(h2:(n2,Rows.laid_rowmill_machine_rules) ∈ L)(k2 : Tryz.prog.globalNamed n2=some 9)(h3:(n3,Rows.laid_strconv_ErrRange) ∈ L)(k3 : Tryz.prog.globalNamed n3=some 8)(h4:("internal/strconv.uint64pow10",Rows.laid_internal_strconv_uint64pow10) ∈ L):Globs W :=
 ⟨spell_of h h1 k1,err_of h h3 k3,rules_of h h2 k2,lt_of_cell (rules_of h h2 k2 2 (by omega) (by omega)).1,pow_of h h4⟩
end Go.Proofs.YtojdpjpldokjmaaGreatDoor
