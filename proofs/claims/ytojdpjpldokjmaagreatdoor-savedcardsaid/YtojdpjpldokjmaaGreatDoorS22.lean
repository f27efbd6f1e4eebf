/- The code's Save: a value, a column as text. -/
import Derived.Test.YtojdpjpldokjmaaGreatDoorS09
import Derived.Test.YtojdpjpldokjmaaGreatDoorS11
set_option maxHeartbeats 60000000
set_option maxRecDepth 100000
namespace Go.Proofs.YtojdpjpldokjmaaGreatDoor
open Go.RowKit Go.Deep
set_option linter.unusedSimpArgs false
set_option linter.unusedVariables false
theorem quote_len:∀ s:List UInt8,(Pl.quote s).length <= 2 * s.length
 | []=>by simp [Pl.quote]
 | c :: r=>by
   have := quote_len r
   unfold Pl.quote
   split <;> simp <;> omega
theorem valueTextM (X:SaveLib) (v:Pl.V) (w:World) (hg:SaveG w) (hv:Pl.okV v):Calls Tryz.prog 41 #[vV v] w fun e w' => e = .returned (.string ⟨(Pl.valText v).toArray⟩) /\ Below w.heap.size w w' := by
 have hb0:Below w.heap.size w (w.alloc (.cells #[.int .i64 v.kind,.int .i64 v.n,.string ⟨v.s.toArray⟩] 34)) := (Below.refl _ _).alloc (Nat.le_refl _) _
 have hG := hg.below hb0
 have HB0 := hide hb0
 obtain ⟨k,n,s⟩ := v
 rcases hv with ⟨h1,h2,h3⟩ | ⟨h1,h3,h4,h5⟩ | ⟨h1,h2,h3⟩ | ⟨h1,h2,h3⟩
 · simp only at h1 h2 h3
   subst h1 h2 h3
   clear hG hb0
   unfold vV
   go_enter Tryz.func41,Tryz.ntmps41
   go_wp2_with fail
   go_ret
   exact ⟨rfl,HB0.out⟩
 · simp only at h1 h3 h4 h5
   subst h1 h3
   have HC := hide (numberTextM X n _ h4 h5 hG.pow)
   have HV:Hid (Pl.valText ⟨1,n,[]⟩ = Pl.numText n) := rfl
   clear hG hb0 h4 h5
   unfold vV at *
   go_enter Tryz.func41,Tryz.ntmps41
   go_wp2_with fail
   refine (unhide HC).mono ?_
   rintro e w1 ⟨rfl,hb⟩
   have HB := hide (HB0.out.trans (hb.mono HB0.out.size))
   clear hb HC
   go_wp2_with fail
   go_ret
   exact ⟨ret_str (by rw [HV.out]),HB.out⟩
 · simp only at h1 h2 h3
   subst h1 h2
   have HC := hide (X.repl s _ (by omega) hG.max)
   have HV:Hid (Pl.valText ⟨2,0,s⟩ = 39 :: (Pl.quote s ++ [39])) := rfl
   have hq:(Pl.quote s).length <= 80 := by have := quote_len s; omega
   generalize Pl.quote s = q at *
   clear hG hb0
   unfold vV at *
   go_enter Tryz.func41,Tryz.ntmps41
   go_wp2_with fail
   refine (unhide HC).mono ?_
   rintro e w1 ⟨rfl,hb⟩
   have HB := hide (HB0.out.trans (hb.mono HB0.out.size))
   clear hb HC
   go_wp2_with fail
   go_ret
   exact ⟨ret_str (by rw [HV.out]; exact (congrArg (· ++ _) (cat2' [39] q)).trans (cat2' (39 :: q) [39])),HB.out⟩
 · simp only at h1 h2 h3
   subst h1 h3
   have HC := hide (truthTextM (n == 1) (w.alloc (.cells #[.int .i64 3,.int .i64 n,.string ⟨([]:List UInt8).toArray⟩] 34)))
   have HV:Hid (Pl.valText ⟨3,n,[]⟩ = if (n == 1) = true then [84,82,85,69] else [70,65,76,83,69]) := by
     rcases h2 with rfl | rfl <;> rfl
   clear hG hb0 h2
   generalize (if (n == 1) = true then ([84,82,85,69]:List UInt8) else [70,65,76,83,69]) = x at *
   unfold vV at *
   go_enter Tryz.func41,Tryz.ntmps41
   go_wp2_with fail
   refine (unhide HC).mono ?_
   rintro e w1 ⟨rfl,rfl⟩
   go_wp2_with fail
   go_ret
   exact ⟨ret_str (by rw [HV.out]),HB0.out⟩
theorem typeText_len (k:Int):(Pl.typeText k).length <= 4 := by
 unfold Pl.typeText
 split
 · decide
 · split <;> decide
theorem columnTextM (c:List UInt8 × Int) (w:World) (hg:SaveG w) (h1:c.1.length <= 10) (h2:c.2 = 1 \/ c.2 = 2 \/ c.2 = 3):Calls Tryz.prog 39 #[.agg #[.string ⟨c.1.toArray⟩,.int .i64 c.2]] w fun e w' => e = .returned (.string ⟨(Pl.colText c).toArray⟩) /\ Below w.heap.size w w' := by
 obtain ⟨x,t⟩ := c
 simp only at h1 h2
 have hb0:Below w.heap.size w (w.alloc (.cells #[.string ⟨x.toArray⟩,.int .i64 t] 97)) := (Below.refl _ _).alloc (Nat.le_refl _) _
 have hG := hg.below hb0
 have HV:Hid (Pl.colText (x,t) = x ++ 32 :: Pl.typeText t) := rfl
 obtain ⟨k,rfl,hk1,hk3⟩:∃ k:Nat,t = (k:Int) /\ 1 <= k /\ k <= 3 := ⟨t.toNat,by omega,by omega,by omega⟩
 have hn := hg.names k hk1 hk3
 have hz : 0 < w.heap.size := hg.lts _ (.inr (.inr rfl))
 have hl := typeText_len k
 have HB0 := hide hb0
 generalize Pl.typeText (k:Nat) = y at *
 have hk4:(k:Int) < 4 := by omega
 clear hg hG hb0 h2
 go_enter Tryz.func39,Tryz.ntmps39
 go_upto_region 1 with fail
 go_region
 all_goals go_wp2_with fail
 all_goals go_ret
 all_goals exact ⟨ret_str (by rw [HV.out]; exact (congrArg (· ++ _) (cat2' x [32])).trans ((cat2' (x ++ [32]) y).trans (by simp))),HB0.out.drew⟩
end Go.Proofs.YtojdpjpldokjmaaGreatDoor
