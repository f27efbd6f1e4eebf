/- The code's reader of values: deeper, brackets, signs, single values. -/
import Derived.Test.YtojdpjpldokjmaaGreatDoorJ13
import Derived.Test.YtojdpjpldokjmaaGreatDoorJ06
namespace Go.Proofs.YtojdpjpldokjmaaGreatDoor
open Go.RowKit Go.Deep
set_option linter.unusedSimpArgs false
set_option linter.unusedVariables false

theorem RC.deep {w : World} {rb : Nat} {T ts : List Pl.Tok} {d : Nat} {b : Bool} (h : RC w rb T ts d b) (d' : Nat) (x : Int) (hx : x = d') : RC (w.setCell ⟨rb, 2, none⟩ (.int .i64 x)) rb T ts d' b := by
  obtain ⟨v, p, h1, h2, h3, h4, h5⟩ := h
  subst hx
  exact ⟨v, p, by simpa using blk_set h1 2 (.int .i64 d'), h2, h3, h4, h5.keeps ((Keeps.refl _ _).set _ _)⟩
theorem RC.c {w : World} {rb : Nat} {T ts : List Pl.Tok} {d : Nat} {b : Bool} (h : RC w rb T ts d b) : w.cell? ⟨rb, 2, none⟩ = some (.int .i64 d) ∧ w.cell? ⟨rb, 3, none⟩ = some (.bool b) ∧ (∀ o, w.frozen? ⟨rb, o, none⟩ = false) := by
  obtain ⟨v, p, h1, _⟩ := h
  exact ⟨by simpa using blk_cell h1 2, by simpa using blk_cell h1 3, blk_frozen h1⟩
theorem RC.below {w w' : World} {rb : Nat} {T ts : List Pl.Tok} {d : Nat} {b : Bool} (h : RC w rb T ts d b) (hb : Below w.heap.size w w') : RC w' rb T ts d b :=
  h.keeps ((Keeps.refl _ _).below hb) (hb.block rb h.lt)
/-- A function that is entered when it is called. -/
def Ent (f : FuncId) : Prop := ∀ (a : Array Value) (w : World), (callFunc f a).run Tryz.prog w = .ok (.enter f a) w

set_option maxHeartbeats 400000 in
set_option maxRecDepth 100000 in
theorem deeperC (f : FuncId) (he : Ent f) (d : Nat) (hd : d ≤ 20) (q : Pl.P) (H : d < 20 → CQ f (d + 1) q) (H0 : d = 20 → ∀ ts, q ts = none) (rb : Nat) (T ts : List Pl.Tok) (b : Bool) (w : World) (hR : RC w rb T ts d b) :
    Calls Tryz.prog 283 #[.pointer (some ⟨rb, 0, none⟩), .func (.func f) #[.pointer (some ⟨rb, 0, none⟩)] #[]] w (PostR w rb T d b (q ts)) := by
  obtain ⟨c2, c3, cf⟩ := hR.c
  have hz := hR.lt
  have HR := hide hR
  have he' : ∀ (a : Array Value) (w : World), (callFunc f a).run Tryz.prog w = .ok (.enter f a) w := he
  by_cases h20 : d < 20
  · have HH := hide (H h20)
    have hne : ((d : Int) == 20) = false := by simp; omega
    have HRd := hide (hR.deep (d + 1) ((d : Int) + 1) (by omega))
    clear hR H H0 he
    go_enter Tryz.func283, Tryz.ntmps283
    go_wp2_with fail
    refine (unhide HH rb T ts b _ HRd.out).mono ?_
    rintro e w1 ⟨hk1, a, rfl, hp⟩
    have HK1 := hide (((Keeps.refl rb w).set 2 (.int .i64 ((d : Int) + 1))).trans hk1)
    clear hk1
    cases hq : q ts with
    | none =>
      rw [hq] at hp
      obtain ⟨r2, r3, rf⟩ := hp.c
      have hz1 := hp.lt
      have HP := hide (hp.deep d (d : Int) rfl)
      clear hp
      go_wp2_with fail
      go_ret
      exact PostR.none_ hq (HK1.out.set _ _) HP.out
    | some y =>
      obtain ⟨x, r⟩ := y
      rw [hq] at hp
      obtain ⟨hx, hr⟩ := hp
      obtain ⟨r2, r3, rf⟩ := hr.c
      have hz1 := hr.lt
      have HP := hide (hr.deep d (d : Int) rfl)
      have HX := hide hx
      clear hr hx
      go_wp2_with fail
      go_ret
      exact PostR.some_ hq (HK1.out.set _ _) (HX.out.keeps ((Keeps.refl _ _).set _ _)) HP.out
  · have hd20 : d = 20 := by omega
    subst hd20
    have HV := hide (H0 rfl ts)
    clear H H0 he hR
    go_enter Tryz.func283, Tryz.ntmps283
    go_wp2_with fail
    refine (failC rb T ts 20 b w HR.out).mono ?_
    rintro e w1 ⟨rfl, hr1, hk1⟩
    go_wp2_with fail
    go_ret
    exact PostR.none_ HV.out hk1 hr1

namespace Pl
/-- A value in brackets. -/
def pBr (val : P) : P := fun ts => if (hd ts).k = 7 then match val ts.tail with
    | none => none
    | some (x, r) => if (hd r).k = 8 then some (x, r.tail) else none
  else none
end Pl
theorem kinds_new (w : World) (ks : List Nat) (C : Array Value) (t : TypeId) (hC : C = (ks.map (fun k => Value.int .i64 (k : Nat))).toArray) : kindsAt (w.alloc (.cells C t)) w.heap.size ks := by
  refine ⟨by simp, fun i h => ?_⟩
  rw [blk_cell (blk_new w _)]
  subst hC
  simp [h]
theorem needs1 {ts : List Pl.Tok} {k : Nat} : needs [k] ts = if (Pl.hd ts).k = k then some ts.tail else none := by
  unfold needs hk needs; simp

set_option maxHeartbeats 1000000 in
set_option maxRecDepth 100000 in
theorem bracketsC (d : Nat) (hd : d ≤ 20) (val : Pl.P) (H : d < 20 → CQ 154 (d + 1) val) (H0 : d = 20 → ∀ ts, val ts = none) : CQ 338 d (Pl.pBr val) := by
  intro rb T ts b w hR
  have HT := hide (takeC 7 (by decide) rb T ts d b w hR)
  have HDp := hide (deeperC 154 (fun a w => by go_simp) d hd val H H0 rb T)
  clear H H0 hR
  by_cases h7 : (Pl.hd ts).k = 7
  · have hx := nxn h7
    obtain ⟨_, _, _, e4⟩ := nx_yes (b := b) hx
    rw [hx, e4] at HT
    have HV : Hid (Pl.pBr val ts = match val ts.tail with | none => none | some (x, r) => if (Pl.hd r).k = 8 then some (x, r.tail) else none) := by unfold Hid Pl.pBr; rw [if_pos h7]
    clear hx e4
    go_enter Tryz.func338, Tryz.ntmps338
    go_wp2_with fail
    refine (unhide HT).mono ?_
    rintro e w1 ⟨rfl, hr1, hk1⟩
    have HR1 := hide hr1
    have HK1 := hide hk1
    clear hr1 hk1 HT
    go_wp2_with fail
    refine (unhide HDp ts.tail b w1 HR1.out).mono ?_
    rintro e w2 ⟨hk2, a, rfl, hp⟩
    have HK2 := hide (HK1.out.trans hk2)
    clear hk2 HK1 HR1
    cases hv : val ts.tail with
    | none =>
      rw [hv] at hp
      have hz2 := hp.lt
      have HN := hide (needC [8] 1 rfl (by decide) (by decide) w2.heap.size 1 rb T [] d true _ (hp.alloc (.cells #[.int .i64 8] 129)) (kinds_new w2 [8] _ _ rfl) (by omega))
      have HV2 : Hid (Pl.pBr val ts = none) := by unfold Hid; rw [HV.out, hv]
      clear hp hv
      go_wp2_with fail
      refine (unhide HN).mono ?_
      rintro e w3 ⟨rfl, hr3, hk3⟩
      go_wp2_with fail
      go_ret
      exact PostR.none_ HV2.out ((HK2.out.alloc _).trans hk3) hr3
    | some y =>
      obtain ⟨x, r⟩ := y
      rw [hv] at hp
      obtain ⟨hx, hr⟩ := hp
      have hz2 := hr.lt
      have HX := hide hx
      have HN := hide (needC [8] 1 rfl (by decide) (by decide) w2.heap.size 1 rb T r d b _ (hr.alloc (.cells #[.int .i64 8] 129)) (kinds_new w2 [8] _ _ rfl) (by omega))
      rw [needs1] at HN
      have HV2 : Hid (Pl.pBr val ts = if (Pl.hd r).k = 8 then some (x, r.tail) else none) := by unfold Hid; rw [HV.out, hv]
      clear hr hx hv
      go_wp2_with fail
      refine (unhide HN).mono ?_
      rintro e w3 ⟨rfl, hr3, hk3⟩
      have HR3 := hide hr3
      have HK3 := hide ((HK2.out.alloc (.cells #[.int .i64 8] 129)).trans hk3)
      have HX3 := hide (HX.out.keeps (((Keeps.refl _ _).alloc (.cells #[.int .i64 8] 129)).trans hk3))
      clear hr3 hk3 HN
      go_wp2_with fail
      go_ret
      have h := HR3.out
      by_cases h8 : (Pl.hd r).k = 8
      · rw [if_pos h8] at h
        exact PostR.some_ (by rw [HV2.out, if_pos h8]) HK3.out HX3.out h
      · rw [if_neg h8] at h
        exact PostR.none_ (by rw [HV2.out, if_neg h8]) HK3.out h
  · have hx := nxf h7
    obtain ⟨_, _, _, e4⟩ := nx_no (b := b) hx
    rw [hx, e4] at HT
    have HV : Hid (Pl.pBr val ts = none) := by unfold Hid Pl.pBr; rw [if_neg h7]
    clear hx e4
    go_enter Tryz.func338, Tryz.ntmps338
    go_wp2_with fail
    refine (unhide HT).mono ?_
    rintro e w1 ⟨rfl, hr1, hk1⟩
    have HR1 := hide hr1
    have HK1 := hide hk1
    clear hr1 hk1 HT
    go_wp2_with fail
    refine (failC rb T ts d b w1 HR1.out).mono ?_
    rintro e w2 ⟨rfl, hr2, hk2⟩
    go_wp2_with fail
    go_ret
    exact PostR.none_ HV.out (HK1.out.trans hk2) hr2

set_option maxHeartbeats 1000000 in
set_option maxRecDepth 100000 in
theorem singleC (d : Nat) (v : Pl.Lv) (HB : CQ 338 d (Pl.pBr v.val)) : CQ 335 d v.single := by
  intro rb T ts b w hR
  have HP := hide (peekC rb T ts d b w hR)
  have hz := hR.lt
  have HBr := hide HB
  clear hR HB
  by_cases h2 : (Pl.hd ts).k = 2
  · have HV : Hid (v.single ts = some (Pl.tLit 1 (Pl.hd ts).n [], ts.tail)) := by unfold Hid Pl.Lv.single Pl.pSingle; simp [h2]
    have hx := nxn h2
    obtain ⟨e1, e2, e3, _⟩ := nx_yes (b := b) hx
    go_enter Tryz.func335, Tryz.ntmps335
    go_wp2_with fail
    refine (unhide HP).mono ?_
    rintro e w1 ⟨rfl, hr1, hk1⟩
    rw [h2]
    have HN := hide (numberC rb T ts d b w1 hr1)
    rw [e1, e2, e3] at HN
    have HK1 := hide hk1
    clear hr1 hk1 HP e1 e2 e3 hx
    go_wp2_with fail
    refine (unhide HN).mono ?_
    rintro e w2 ⟨rfl, hr2, hk2⟩
    have HR2 := hide hr2
    have HK2 := hide (HK1.out.trans hk2)
    clear hr2 hk2 HN
    go_wp2_with fail
    refine (literalC 1 (Pl.hd ts).n { data := #[] } _).mono ?_
    rintro e wl ⟨n, rfl, hn, hb, hw⟩
    have HRl := hide (HR2.out.below hw)
    have HKl := hide (HK2.out.below hw)
    have hzl := HR2.out.lt
    have HBl := hide hb
    clear hb hw
    go_wp2_with fail
    go_ret
    exact PostR.some_ HV.out HKl.out (CTree.lit (by omega) _ _ _ _ rfl HBl.out) HRl.out
  by_cases h3 : (Pl.hd ts).k = 3
  · have HV : Hid (v.single ts = some (Pl.tLit 2 0 (Pl.hd ts).s, ts.tail)) := by unfold Hid Pl.Lv.single Pl.pSingle; simp [h3]
    have hx := nxn h3
    obtain ⟨e1, e2, e3, _⟩ := nx_yes (b := b) hx
    have hf := fieldTok2
    go_enter Tryz.func335, Tryz.ntmps335
    go_wp2_with fail
    refine (unhide HP).mono ?_
    rintro e w1 ⟨rfl, hr1, hk1⟩
    rw [h3]
    have HN := hide (tokenC 3 (by decide) rb T ts d b w1 hr1)
    rw [e1, e2, e3, Pl.cTok_eq] at HN
    have HK1 := hide hk1
    clear hr1 hk1 HP e1 e2 e3 hx
    go_wp2_with fail
    refine (unhide HN).mono ?_
    rintro e w2 ⟨rfl, hr2, hk2⟩
    have HR2 := hide hr2
    have HK2 := hide (HK1.out.trans hk2)
    clear hr2 hk2 HN
    go_wp2_with fail
    refine (literalC 2 0 _ _).mono ?_
    rintro e wl ⟨n, rfl, hn, hb, hw⟩
    have HRl := hide (HR2.out.below hw)
    have HKl := hide (HK2.out.below hw)
    have hzl := HR2.out.lt
    have HBl := hide hb
    clear hb hw
    go_wp2_with fail
    go_ret
    exact PostR.some_ HV.out HKl.out (CTree.lit (by omega) _ _ _ _ rfl HBl.out) HRl.out
  by_cases h1 : (Pl.hd ts).k = 1
  · have HV : Hid (v.single ts = Pl.pCol ts) := by unfold Hid Pl.Lv.single Pl.pSingle Pl.pCol; simp [h1]
    go_enter Tryz.func335, Tryz.ntmps335
    go_wp2_with fail
    refine (unhide HP).mono ?_
    rintro e w1 ⟨rfl, hr1, hk1⟩
    rw [h1]
    have HN := hide (columnC rb T ts d b w1 hr1 h1)
    have HK1 := hide hk1
    clear hr1 hk1 HP
    go_wp2_with fail
    refine (unhide HN).mono ?_
    rintro e w2 ⟨hk2, a, rfl, hp⟩
    go_wp2_with fail
    go_ret
    exact ⟨HK1.out.trans hk2, a, rfl, by rw [HV.out]; exact hp⟩
  by_cases h46 : (Pl.hd ts).k = 46
  · skip
    have HV : Hid (v.single ts = some (Pl.tLit 3 1 [], ts.tail)) := by unfold Hid Pl.Lv.single Pl.pSingle; simp [h46]
    have hx46 := nxn h46
    go_enter Tryz.func335, Tryz.ntmps335
    go_wp2_with fail
    refine (unhide HP).mono ?_
    rintro e w1 ⟨rfl, hr1, hk1⟩
    rw [h46]
    have HRR0 := hide hr1
    have HKK0 := hide hk1
    clear hr1 hk1 HP
    have HT0 := hide (takeC 46 (by decide) rb T ts d b w1 HRR0.out)
    rw [hx46, (nx_yes (b := b) hx46).2.2.2] at HT0
    go_wp2_with fail
    refine (unhide HT0).mono ?_
    rintro e w2 ⟨rfl, hrr, hkk⟩
    have HRR1 := hide hrr
    have HKK1 := hide (HKK0.out.trans hkk)
    clear hrr hkk HT0
    go_wp2_with fail
    refine (literalC 3 1 { data := #[] } _).mono ?_
    rintro e wl ⟨n, rfl, hn, hb, hw⟩
    have HRl := hide (HRR1.out.below hw)
    have HKl := hide (HKK1.out.below hw)
    have hzl := HRR1.out.lt
    have HBl := hide hb
    clear hb hw
    go_wp2_with fail
    go_ret
    exact PostR.some_ HV.out HKl.out (CTree.lit (by omega) _ _ _ _ rfl HBl.out) HRl.out
  by_cases h47 : (Pl.hd ts).k = 47
  · skip
    have HV : Hid (v.single ts = some (Pl.tLit 3 0 [], ts.tail)) := by unfold Hid Pl.Lv.single Pl.pSingle; simp [h47]
    have hx46 := (nxf (k := 46) (ts := ts) (by omega))
    have hx47 := nxn h47
    go_enter Tryz.func335, Tryz.ntmps335
    go_wp2_with fail
    refine (unhide HP).mono ?_
    rintro e w1 ⟨rfl, hr1, hk1⟩
    rw [h47]
    have HRR0 := hide hr1
    have HKK0 := hide hk1
    clear hr1 hk1 HP
    have HT0 := hide (takeC 46 (by decide) rb T ts d b w1 HRR0.out)
    rw [hx46, (nx_no (b := b) hx46).2.2.2] at HT0
    go_wp2_with fail
    refine (unhide HT0).mono ?_
    rintro e w2 ⟨rfl, hrr, hkk⟩
    have HRR1 := hide hrr
    have HKK1 := hide (HKK0.out.trans hkk)
    clear hrr hkk HT0
    have HT1 := hide (takeC 47 (by decide) rb T ts d b w2 HRR1.out)
    rw [hx47, (nx_yes (b := b) hx47).2.2.2] at HT1
    go_wp2_with fail
    refine (unhide HT1).mono ?_
    rintro e w3 ⟨rfl, hrr, hkk⟩
    have HRR2 := hide hrr
    have HKK2 := hide (HKK1.out.trans hkk)
    clear hrr hkk HT1
    go_wp2_with fail
    refine (literalC 3 0 { data := #[] } _).mono ?_
    rintro e wl ⟨n, rfl, hn, hb, hw⟩
    have HRl := hide (HRR2.out.below hw)
    have HKl := hide (HKK2.out.below hw)
    have hzl := HRR2.out.lt
    have HBl := hide hb
    clear hb hw
    go_wp2_with fail
    go_ret
    exact PostR.some_ HV.out HKl.out (CTree.lit (by omega) _ _ _ _ rfl HBl.out) HRl.out
  by_cases h45 : (Pl.hd ts).k = 45
  · skip
    have HV : Hid (v.single ts = some (Pl.tLit 0 0 [], ts.tail)) := by unfold Hid Pl.Lv.single Pl.pSingle; simp [h45]
    have hx46 := (nxf (k := 46) (ts := ts) (by omega))
    have hx47 := (nxf (k := 47) (ts := ts) (by omega))
    have hx45 := nxn h45
    go_enter Tryz.func335, Tryz.ntmps335
    go_wp2_with fail
    refine (unhide HP).mono ?_
    rintro e w1 ⟨rfl, hr1, hk1⟩
    rw [h45]
    have HRR0 := hide hr1
    have HKK0 := hide hk1
    clear hr1 hk1 HP
    have HT0 := hide (takeC 46 (by decide) rb T ts d b w1 HRR0.out)
    rw [hx46, (nx_no (b := b) hx46).2.2.2] at HT0
    go_wp2_with fail
    refine (unhide HT0).mono ?_
    rintro e w2 ⟨rfl, hrr, hkk⟩
    have HRR1 := hide hrr
    have HKK1 := hide (HKK0.out.trans hkk)
    clear hrr hkk HT0
    have HT1 := hide (takeC 47 (by decide) rb T ts d b w2 HRR1.out)
    rw [hx47, (nx_no (b := b) hx47).2.2.2] at HT1
    go_wp2_with fail
    refine (unhide HT1).mono ?_
    rintro e w3 ⟨rfl, hrr, hkk⟩
    have HRR2 := hide hrr
    have HKK2 := hide (HKK1.out.trans hkk)
    clear hrr hkk HT1
    have HT2 := hide (takeC 45 (by decide) rb T ts d b w3 HRR2.out)
    rw [hx45, (nx_yes (b := b) hx45).2.2.2] at HT2
    go_wp2_with fail
    refine (unhide HT2).mono ?_
    rintro e w4 ⟨rfl, hrr, hkk⟩
    have HRR3 := hide hrr
    have HKK3 := hide (HKK2.out.trans hkk)
    clear hrr hkk HT2
    go_wp2_with fail
    refine (literalC 0 0 { data := #[] } _).mono ?_
    rintro e wl ⟨n, rfl, hn, hb, hw⟩
    have HRl := hide (HRR3.out.below hw)
    have HKl := hide (HKK3.out.below hw)
    have hzl := HRR3.out.lt
    have HBl := hide hb
    clear hb hw
    go_wp2_with fail
    go_ret
    exact PostR.some_ HV.out HKl.out (CTree.lit (by omega) _ _ _ _ rfl HBl.out) HRl.out
  have HV : Hid (v.single ts = Pl.pBr v.val ts) := by unfold Hid Pl.Lv.single Pl.pSingle Pl.pBr; simp [h1, h2, h3, h45, h46, h47]; rfl
  have hx46 := nxf h46
  have hx47 := nxf h47
  have hx45 := nxf h45
  have g1 : (((Pl.hd ts).k : Int) == 1) = false := by simp; omega
  have g2 : (((Pl.hd ts).k : Int) == 2) = false := by simp; omega
  have g3 : (((Pl.hd ts).k : Int) == 3) = false := by simp; omega
  go_enter Tryz.func335, Tryz.ntmps335
  go_wp2_with fail
  refine (unhide HP).mono ?_
  rintro e w1 ⟨rfl, hr1, hk1⟩
  have HRR0 := hide hr1
  have HKK0 := hide hk1
  clear hr1 hk1 HP
  have HT0 := hide (takeC 46 (by decide) rb T ts d b w1 HRR0.out)
  rw [hx46, (nx_no (b := b) hx46).2.2.2] at HT0
  go_wp2_with fail
  refine (unhide HT0).mono ?_
  rintro e w2 ⟨rfl, hrr, hkk⟩
  have HRR1 := hide hrr
  have HKK1 := hide (HKK0.out.trans hkk)
  clear hrr hkk HT0
  have HT1 := hide (takeC 47 (by decide) rb T ts d b w2 HRR1.out)
  rw [hx47, (nx_no (b := b) hx47).2.2.2] at HT1
  go_wp2_with fail
  refine (unhide HT1).mono ?_
  rintro e w3 ⟨rfl, hrr, hkk⟩
  have HRR2 := hide hrr
  have HKK2 := hide (HKK1.out.trans hkk)
  clear hrr hkk HT1
  have HT2 := hide (takeC 45 (by decide) rb T ts d b w3 HRR2.out)
  rw [hx45, (nx_no (b := b) hx45).2.2.2] at HT2
  go_wp2_with fail
  refine (unhide HT2).mono ?_
  rintro e w4 ⟨rfl, hrr, hkk⟩
  have HRR3 := hide hrr
  have HKK3 := hide (HKK2.out.trans hkk)
  clear hrr hkk HT2
  go_wp2_with fail
  refine (unhide HBr rb T ts b _ HRR3.out).mono ?_
  rintro e w5 ⟨hk5, a, rfl, hp⟩
  go_wp2_with fail
  go_ret
  exact ⟨HKK3.out.trans hk5, a, rfl, by rw [HV.out]; exact hp⟩

set_option maxHeartbeats 1000000 in
set_option maxRecDepth 100000 in
theorem signedC (d : Nat) (hd : d ≤ 20) (v : Pl.Lv) (H : d < 20 → CQ 333 (d + 1) v.sgn) (H0 : d = 20 → ∀ ts, v.sgn ts = none) (HO : CQ 335 d v.single) : CQ 333 d v.signed := by
  intro rb T ts b w hR
  have HT := hide (takeC 16 (by decide) rb T ts d b w hR)
  have HDp := hide (deeperC 333 (fun a w => by go_simp) d hd v.sgn H H0 rb T)
  have HOth := hide HO
  clear H H0 hR HO
  by_cases hk : (Pl.hd ts).k = 16
  · have hx := nxn hk
    obtain ⟨_, _, _, e4⟩ := nx_yes (b := b) hx
    rw [hx, e4] at HT
    have HV : Hid (v.signed ts = match v.sgn ts.tail with | none => none | some (x, r) => some (Pl.tOne 2 x, r)) := by unfold Hid Pl.Lv.signed Pl.pSigned; rw [if_pos hk]; rfl
    clear hx e4
    go_enter Tryz.func333, Tryz.ntmps333
    go_wp2_with fail
    refine (unhide HT).mono ?_
    rintro e w1 ⟨rfl, hr1, hk1⟩
    have HR1 := hide hr1
    have HK1 := hide hk1
    clear hr1 hk1 HT
    go_wp2_with fail
    refine (unhide HDp ts.tail b w1 HR1.out).mono ?_
    rintro e w2 ⟨hk2, a, rfl, hp⟩
    have HK2 := hide (HK1.out.trans hk2)
    have HP := hide hp
    clear hk2 HK1 HR1 hp
    go_wp2_with fail
    go_ret
    have hp := HP.out
    cases hv : v.sgn ts.tail with
    | none =>
      rw [hv] at hp
      exact PostR.none_ (by rw [HV.out, hv]) (HK2.out.alloc _) (hp.alloc _)
    | some y =>
      obtain ⟨x, r⟩ := y
      rw [hv] at hp
      exact PostR.some_ (by rw [HV.out, hv]) (HK2.out.alloc _) (CTree.one hp.2.lt 2 x _ (blk_new _ _) (hp.1.keeps ((Keeps.refl _ _).alloc _))) (hp.2.alloc _)
  · have hx := nxf hk
    obtain ⟨_, _, _, e4⟩ := nx_no (b := b) hx
    rw [hx, e4] at HT
    have HV : Hid (v.signed ts = v.single ts) := by unfold Hid Pl.Lv.signed Pl.pSigned; rw [if_neg hk]
    clear hx e4
    go_enter Tryz.func333, Tryz.ntmps333
    go_wp2_with fail
    refine (unhide HT).mono ?_
    rintro e w1 ⟨rfl, hr1, hk1⟩
    have HR1 := hide hr1
    have HK1 := hide hk1
    clear hr1 hk1 HT
    go_wp2_with fail
    refine (unhide HOth rb T ts b w1 HR1.out).mono ?_
    rintro e w2 ⟨hk2, a, rfl, hp⟩
    go_wp2_with fail
    go_ret
    exact ⟨HK1.out.trans hk2, a, rfl, by rw [HV.out]; exact hp⟩

set_option maxHeartbeats 1000000 in
set_option maxRecDepth 100000 in
theorem noC (d : Nat) (hd : d ≤ 20) (v : Pl.Lv) (H : d < 20 → CQ 250 (d + 1) v.no) (H0 : d = 20 → ∀ ts, v.no ts = none) (HO : CQ 284 d v.comp) : CQ 250 d v.no' := by
  intro rb T ts b w hR
  have HT := hide (takeC 43 (by decide) rb T ts d b w hR)
  have HDp := hide (deeperC 250 (fun a w => by go_simp) d hd v.no H H0 rb T)
  have HOth := hide HO
  clear H H0 hR HO
  by_cases hk : (Pl.hd ts).k = 43
  · have hx := nxn hk
    obtain ⟨_, _, _, e4⟩ := nx_yes (b := b) hx
    rw [hx, e4] at HT
    have HV : Hid (v.no' ts = match v.no ts.tail with | none => none | some (x, r) => some (Pl.tOne 3 x, r)) := by unfold Hid Pl.Lv.no' Pl.pNo; rw [if_pos hk]; rfl
    clear hx e4
    go_enter Tryz.func250, Tryz.ntmps250
    go_wp2_with fail
    refine (unhide HT).mono ?_
    rintro e w1 ⟨rfl, hr1, hk1⟩
    have HR1 := hide hr1
    have HK1 := hide hk1
    clear hr1 hk1 HT
    go_wp2_with fail
    refine (unhide HDp ts.tail b w1 HR1.out).mono ?_
    rintro e w2 ⟨hk2, a, rfl, hp⟩
    have HK2 := hide (HK1.out.trans hk2)
    have HP := hide hp
    clear hk2 HK1 HR1 hp
    go_wp2_with fail
    go_ret
    have hp := HP.out
    cases hv : v.no ts.tail with
    | none =>
      rw [hv] at hp
      exact PostR.none_ (by rw [HV.out, hv]) (HK2.out.alloc _) (hp.alloc _)
    | some y =>
      obtain ⟨x, r⟩ := y
      rw [hv] at hp
      exact PostR.some_ (by rw [HV.out, hv]) (HK2.out.alloc _) (CTree.one hp.2.lt 3 x _ (blk_new _ _) (hp.1.keeps ((Keeps.refl _ _).alloc _))) (hp.2.alloc _)
  · have hx := nxf hk
    obtain ⟨_, _, _, e4⟩ := nx_no (b := b) hx
    rw [hx, e4] at HT
    have HV : Hid (v.no' ts = v.comp ts) := by unfold Hid Pl.Lv.no' Pl.pNo; rw [if_neg hk]
    clear hx e4
    go_enter Tryz.func250, Tryz.ntmps250
    go_wp2_with fail
    refine (unhide HT).mono ?_
    rintro e w1 ⟨rfl, hr1, hk1⟩
    have HR1 := hide hr1
    have HK1 := hide hk1
    clear hr1 hk1 HT
    go_wp2_with fail
    refine (unhide HOth rb T ts b w1 HR1.out).mono ?_
    rintro e w2 ⟨hk2, a, rfl, hp⟩
    go_wp2_with fail
    go_ret
    exact ⟨HK1.out.trans hk2, a, rfl, by rw [HV.out]; exact hp⟩
end Go.Proofs.YtojdpjpldokjmaaGreatDoor
/- The code's reader of values: chains of parts. -/
namespace Go.Proofs.YtojdpjpldokjmaaGreatDoor
open Go.RowKit Go.Deep
set_option linter.unusedSimpArgs false
set_option linter.unusedVariables false

/-- Where a chain's loop stands: what is left is read on; or something is wrong, and nothing is told. -/
def LoopC (w wr : World) (rb : Nat) (T : List Pl.Tok) (d : Nat) (b : Bool) (part : Pl.P) (op : Nat → Option Nat) (sp : Option (Pl.T × List Pl.Tok)) (g : Nat) (a : Option Addr) : Prop :=
  Keeps rb w wr ∧ ((∃ x ts, ts.length < g ∧ CTree wr rb x (.pointer a) ∧ RC wr rb T ts d b ∧ Pl.chain part op (ts.length + 1) x ts = sp) ∨ (0 < g ∧ RC wr rb T [] d true ∧ sp = none))

/-- From the first part to the loop. -/
theorem loopC_start {w w1 : World} {rb : Nat} {T ts : List Pl.Tok} {d : Nat} {b : Bool} {part : Pl.P} {op : Nat → Option Nat} {a : Option Addr} (hs : Pl.Shr part) (hk : Keeps rb w w1) (hp : match part ts with
    | some (x, r) => CTree w1 rb x (.pointer a) ∧ RC w1 rb T r d b
    | none => RC w1 rb T [] d true) : LoopC w w1 rb T d b part op (Pl.chained part op ts) (ts.length + 1) a := by
  refine ⟨hk, ?_⟩
  unfold Pl.chained
  cases hq : part ts with
  | none => rw [hq] at hp; exact .inr ⟨by omega, hp, rfl⟩
  | some y =>
    obtain ⟨x, r⟩ := y
    rw [hq] at hp
    exact .inl ⟨x, r, by have := hs _ _ _ hq; omega, hp.1, hp.2, rfl⟩


set_option maxHeartbeats 1000000 in
set_option maxRecDepth 100000 in
theorem bothC (d : Nat) (part : Pl.P) (hs : Pl.Shr part) (HP : CQ 250 d part) : CQ 210 d (Pl.chained part Pl.andOp) := by
  intro rb T ts b w hR
  have HPt := hide HP
  have HR := hide hR
  have HS := hide hs
  have hz := hR.lt
  clear HP hR hs
  generalize hsp : Pl.chained part Pl.andOp ts = sp
  have HSP := hide hsp
  clear hsp
  go_enter Tryz.func210, Tryz.ntmps210
  go_wp2_with fail
  refine (unhide HPt rb T ts b w HR.out).mono ?_
  rintro e w1 ⟨hk1, a, rfl, hp⟩
  have HL := hide (loopC_start (op := Pl.andOp) HS.out hk1 hp)
  rw [HSP.out] at HL
  clear hk1 hp
  go_wp2_with fail
  go_loopg [3] (ts.length + 1) (fun g x wr => ∃ a, x = .pointer a ∧ Hid (LoopC w wr rb T d b part Pl.andOp sp g a))
  case atStart => exact ⟨a, rfl, HL⟩
  case round =>
    obtain ⟨a', rfl, HI⟩ := hrel
    clear HL
    obtain ⟨hk, hi⟩ := HI.out
    have HK := hide hk
    clear hk HI
    rcases hi with ⟨x, tr, hg, hx, hr, hc⟩ | ⟨hg, hr, hn⟩
    · have HX := hide hx
      have HC := hide hc
      have hzr := hr.lt
      have HT := hide (takeC 41 (by decide) rb T tr d b _ hr)
      clear hx hc hr
      by_cases h4 : (Pl.hd tr).k = 41
      · have hop : Pl.andOp (Pl.hd tr).k = some 17 := by unfold Pl.andOp; rw [if_pos h4]
        have hxx := nxn h4
        rw [hxx, (nx_yes (b := b) hxx).2.2.2] at HT
        have HOP := hide hop
        clear hop hxx h4
        go_wp2_with fail
        refine (unhide HT).mono ?_
        rintro e w2 ⟨rfl, hr2, hk2⟩
        have HR2 := hide hr2
        have HK2 := hide (HK.out.trans hk2)
        have HX2 := hide (HX.out.keeps hk2)
        clear hr2 hk2 HT
        go_wp2_with fail
        refine (unhide HPt rb T tr.tail b w2 HR2.out).mono ?_
        rintro e w3 ⟨hk3, a3, rfl, hp3⟩
        have HK3 := hide (HK2.out.trans hk3)
        have HX3 := hide (HX2.out.keeps hk3)
        clear hk3
        cases hq : part tr.tail with
        | none =>
          rw [hq] at hp3
          have HP3 := hide hp3
          have HN : Hid (sp = none) := by unfold Hid; rw [← HC.out]; exact chain_bad HOP.out hq
          have htr : 1 ≤ tr.length := by
            have : tr ≠ [] := fun e => by have h := HOP.out; rw [e] at h; cases h
            cases tr with
            | nil => exact absurd rfl this
            | cons q l => simp
          have hgt := Nat.lt_of_le_of_lt htr hg
          clear hp3 hq
          go_wp2_with fail
          go_roundg 1
          case measure => exact hgt
          case rel => exact ⟨_, rfl, HK3.out.alloc _, .inr ⟨by omega, HP3.out.alloc _, HN.out⟩⟩
        | some y =>
          obtain ⟨y, r⟩ := y
          rw [hq] at hp3
          have HP3 := hide hp3
          have HST := hide (chain_step (x := x) HS.out rfl HOP.out hq)
          clear hp3 hq
          go_wp2_with fail
          go_roundg (r.length + 1)
          case measure => have := HST.out.2; omega
          case rel => exact ⟨_, rfl, HK3.out.alloc _, .inl ⟨_, r, by omega, CTree.two HP3.out.2.lt 17 x y _ _ (blk_new _ _) (HX3.out.keeps ((Keeps.refl _ _).alloc _)) (HP3.out.1.keeps ((Keeps.refl _ _).alloc _)), HP3.out.2.alloc _, by rw [← HST.out.1, HC.out]⟩⟩
      · have hop : Pl.andOp (Pl.hd tr).k = none := by unfold Pl.andOp; rw [if_neg h4]
        have hxx := nxf h4
        rw [hxx, (nx_no (b := b) hxx).2.2.2] at HT
        have HN : Hid (sp = some (x, tr)) := by unfold Hid; rw [← HC.out]; exact chain_end hop
        clear hop hxx h4
        go_wp2_with fail
        refine (unhide HT).mono ?_
        rintro e w2 ⟨rfl, hr2, hk2⟩
        have HR2 := hide hr2
        have HK2 := hide (HK.out.trans hk2)
        have HX2 := hide (HX.out.keeps hk2)
        clear hr2 hk2 HT
        go_wp2_with fail
        go_ret
        exact PostR.some_ HN.out HK2.out HX2.out HR2.out
    · have HN := hide hn
      have HT := hide (takeC 41 (by decide) rb T [] d true _ hr)
      have hxx : hk ([] : List Pl.Tok) 41 = false := rfl
      rw [hxx, (nx_no (b := b) hxx).2.2.2] at HT
      clear hn hr hxx
      go_wp2_with fail
      refine (unhide HT).mono ?_
      rintro e w2 ⟨rfl, hr2, hk2⟩
      have HR2 := hide hr2
      have HK2 := hide (HK.out.trans hk2)
      clear hr2 hk2 HT
      go_wp2_with fail
      go_ret
      exact PostR.none_ HN.out HK2.out HR2.out

set_option maxHeartbeats 1000000 in
set_option maxRecDepth 100000 in
theorem valueC (d : Nat) (part : Pl.P) (hs : Pl.Shr part) (HP : CQ 210 d part) : CQ 154 d (Pl.chained part Pl.orOp) := by
  intro rb T ts b w hR
  have HPt := hide HP
  have HR := hide hR
  have HS := hide hs
  have hz := hR.lt
  clear HP hR hs
  generalize hsp : Pl.chained part Pl.orOp ts = sp
  have HSP := hide hsp
  clear hsp
  go_enter Tryz.func154, Tryz.ntmps154
  go_wp2_with fail
  refine (unhide HPt rb T ts b w HR.out).mono ?_
  rintro e w1 ⟨hk1, a, rfl, hp⟩
  have HL := hide (loopC_start (op := Pl.orOp) HS.out hk1 hp)
  rw [HSP.out] at HL
  clear hk1 hp
  go_wp2_with fail
  go_loopg [3] (ts.length + 1) (fun g x wr => ∃ a, x = .pointer a ∧ Hid (LoopC w wr rb T d b part Pl.orOp sp g a))
  case atStart => exact ⟨a, rfl, HL⟩
  case round =>
    obtain ⟨a', rfl, HI⟩ := hrel
    clear HL
    obtain ⟨hk, hi⟩ := HI.out
    have HK := hide hk
    clear hk HI
    rcases hi with ⟨x, tr, hg, hx, hr, hc⟩ | ⟨hg, hr, hn⟩
    · have HX := hide hx
      have HC := hide hc
      have hzr := hr.lt
      have HT := hide (takeC 42 (by decide) rb T tr d b _ hr)
      clear hx hc hr
      by_cases h4 : (Pl.hd tr).k = 42
      · have hop : Pl.orOp (Pl.hd tr).k = some 18 := by unfold Pl.orOp; rw [if_pos h4]
        have hxx := nxn h4
        rw [hxx, (nx_yes (b := b) hxx).2.2.2] at HT
        have HOP := hide hop
        clear hop hxx h4
        go_wp2_with fail
        refine (unhide HT).mono ?_
        rintro e w2 ⟨rfl, hr2, hk2⟩
        have HR2 := hide hr2
        have HK2 := hide (HK.out.trans hk2)
        have HX2 := hide (HX.out.keeps hk2)
        clear hr2 hk2 HT
        go_wp2_with fail
        refine (unhide HPt rb T tr.tail b w2 HR2.out).mono ?_
        rintro e w3 ⟨hk3, a3, rfl, hp3⟩
        have HK3 := hide (HK2.out.trans hk3)
        have HX3 := hide (HX2.out.keeps hk3)
        clear hk3
        cases hq : part tr.tail with
        | none =>
          rw [hq] at hp3
          have HP3 := hide hp3
          have HN : Hid (sp = none) := by unfold Hid; rw [← HC.out]; exact chain_bad HOP.out hq
          have htr : 1 ≤ tr.length := by
            have : tr ≠ [] := fun e => by have h := HOP.out; rw [e] at h; cases h
            cases tr with
            | nil => exact absurd rfl this
            | cons q l => simp
          have hgt := Nat.lt_of_le_of_lt htr hg
          clear hp3 hq
          go_wp2_with fail
          go_roundg 1
          case measure => exact hgt
          case rel => exact ⟨_, rfl, HK3.out.alloc _, .inr ⟨by omega, HP3.out.alloc _, HN.out⟩⟩
        | some y =>
          obtain ⟨y, r⟩ := y
          rw [hq] at hp3
          have HP3 := hide hp3
          have HST := hide (chain_step (x := x) HS.out rfl HOP.out hq)
          clear hp3 hq
          go_wp2_with fail
          go_roundg (r.length + 1)
          case measure => have := HST.out.2; omega
          case rel => exact ⟨_, rfl, HK3.out.alloc _, .inl ⟨_, r, by omega, CTree.two HP3.out.2.lt 18 x y _ _ (blk_new _ _) (HX3.out.keeps ((Keeps.refl _ _).alloc _)) (HP3.out.1.keeps ((Keeps.refl _ _).alloc _)), HP3.out.2.alloc _, by rw [← HST.out.1, HC.out]⟩⟩
      · have hop : Pl.orOp (Pl.hd tr).k = none := by unfold Pl.orOp; rw [if_neg h4]
        have hxx := nxf h4
        rw [hxx, (nx_no (b := b) hxx).2.2.2] at HT
        have HN : Hid (sp = some (x, tr)) := by unfold Hid; rw [← HC.out]; exact chain_end hop
        clear hop hxx h4
        go_wp2_with fail
        refine (unhide HT).mono ?_
        rintro e w2 ⟨rfl, hr2, hk2⟩
        have HR2 := hide hr2
        have HK2 := hide (HK.out.trans hk2)
        have HX2 := hide (HX.out.keeps hk2)
        clear hr2 hk2 HT
        go_wp2_with fail
        go_ret
        exact PostR.some_ HN.out HK2.out HX2.out HR2.out
    · have HN := hide hn
      have HT := hide (takeC 42 (by decide) rb T [] d true _ hr)
      have hxx : hk ([] : List Pl.Tok) 42 = false := rfl
      rw [hxx, (nx_no (b := b) hxx).2.2.2] at HT
      clear hn hr hxx
      go_wp2_with fail
      refine (unhide HT).mono ?_
      rintro e w2 ⟨rfl, hr2, hk2⟩
      have HR2 := hide hr2
      have HK2 := hide (HK.out.trans hk2)
      clear hr2 hk2 HT
      go_wp2_with fail
      go_ret
      exact PostR.none_ HN.out HK2.out HR2.out
end Go.Proofs.YtojdpjpldokjmaaGreatDoor
/- The code's reader of values: sums, products, comparisons; values whole. -/
namespace Go.Proofs.YtojdpjpldokjmaaGreatDoor
open Go.RowKit Go.Deep
set_option linter.unusedSimpArgs false
set_option linter.unusedVariables false

def oN : Option Nat → Int
  | some o => (o : Nat)
  | none => 0
def oB : Option Nat → Bool
  | some _ => true
  | none => false
def opV (o : Option Nat) : Value := .tuple #[.int .i64 (oN o), .bool (oB o)]
/-- Where a chain's loop stands, whether something is wrong or not. -/
def LoopX (w wr : World) (rb : Nat) (T : List Pl.Tok) (d : Nat) (b : Bool) (part : Pl.P) (op : Nat → Option Nat) (sp : Option (Pl.T × List Pl.Tok)) (g : Nat) (a : Option Addr) (ts : List Pl.Tok) (b' : Bool) : Prop :=
  Keeps rb w wr ∧ RC wr rb T ts d b' ∧ ((b' = b ∧ ∃ x, ts.length < g ∧ CTree wr rb x (.pointer a) ∧ Pl.chain part op (ts.length + 1) x ts = sp) ∨ (0 < g ∧ ts = [] ∧ b' = true ∧ sp = none))
theorem LoopC.x {w wr : World} {rb : Nat} {T : List Pl.Tok} {d : Nat} {b : Bool} {part : Pl.P} {op : Nat → Option Nat} {sp : Option (Pl.T × List Pl.Tok)} {g : Nat} {a : Option Addr} (h : LoopC w wr rb T d b part op sp g a) : ∃ ts b', LoopX w wr rb T d b part op sp g a ts b' := by
  obtain ⟨hk, h⟩ := h
  rcases h with ⟨x, ts, h1, h2, h3, h4⟩ | ⟨h1, h2, h3⟩
  · exact ⟨ts, b, hk, h3, .inl ⟨rfl, x, h1, h2, h4⟩⟩
  · exact ⟨[], true, hk, h2, .inr ⟨h1, rfl, rfl, h3⟩⟩
theorem LoopX.keeps {w wr w2 : World} {rb : Nat} {T : List Pl.Tok} {d : Nat} {b : Bool} {part : Pl.P} {op : Nat → Option Nat} {sp : Option (Pl.T × List Pl.Tok)} {g : Nat} {a : Option Addr} {ts : List Pl.Tok} {b' : Bool} (h : LoopX w wr rb T d b part op sp g a ts b') (hk : Keeps rb wr w2) (hr : RC w2 rb T ts d b') : LoopX w w2 rb T d b part op sp g a ts b' := by
  obtain ⟨h1, h2, h3⟩ := h
  refine ⟨h1.trans hk, hr, ?_⟩
  rcases h3 with ⟨e, x, k1, k2, k3⟩ | h3
  · exact .inl ⟨e, x, k1, k2.keeps hk, k3⟩
  · exact .inr h3
set_option maxHeartbeats 400000 in
set_option maxRecDepth 100000 in
theorem sumOpC (k : Nat) (w : World) : Calls Tryz.prog 332 #[.int .i64 k] w fun e w' => e = .returned (opV (Pl.sumOp k)) ∧ w' = w := by
  by_cases h1 : k = 15
  · subst h1
    go_enter Tryz.func332, Tryz.ntmps332
    go_wp2_with fail
    exact bodyPost_ret (v := opV (Pl.sumOp 15)) (by simp [results, Tryz.results332, go_sem, opV, oN, oB, Pl.sumOp]) rfl ⟨rfl, rfl⟩
  by_cases h2 : k = 16
  · subst h2
    go_enter Tryz.func332, Tryz.ntmps332
    go_wp2_with fail
    exact bodyPost_ret (v := opV (Pl.sumOp 16)) (by simp [results, Tryz.results332, go_sem, opV, oN, oB, Pl.sumOp]) rfl ⟨rfl, rfl⟩
  have g1 : ((k : Int) == 15) = false := by simp; omega
  have g2 : ((k : Int) == 16) = false := by simp; omega
  have HV : Hid (Pl.sumOp k = none) := by unfold Hid Pl.sumOp; rw [if_neg h1, if_neg h2]
  go_enter Tryz.func332, Tryz.ntmps332
  go_wp2_with fail
  exact bodyPost_ret (v := opV none) (by simp [results, Tryz.results332, go_sem, opV, oN, oB]) rfl ⟨by rw [HV.out], rfl⟩
set_option maxHeartbeats 400000 in
set_option maxRecDepth 100000 in
theorem productOpC (k : Nat) (w : World) : Calls Tryz.prog 334 #[.int .i64 k] w fun e w' => e = .returned (opV (Pl.prodOp k)) ∧ w' = w := by
  by_cases h1 : k = 17
  · subst h1
    go_enter Tryz.func334, Tryz.ntmps334
    go_wp2_with fail
    exact bodyPost_ret (v := opV (Pl.prodOp 17)) (by simp [results, Tryz.results334, go_sem, opV, oN, oB, Pl.prodOp]) rfl ⟨rfl, rfl⟩
  by_cases h2 : k = 18
  · subst h2
    go_enter Tryz.func334, Tryz.ntmps334
    go_wp2_with fail
    exact bodyPost_ret (v := opV (Pl.prodOp 18)) (by simp [results, Tryz.results334, go_sem, opV, oN, oB, Pl.prodOp]) rfl ⟨rfl, rfl⟩
  by_cases h3 : k = 19
  · subst h3
    go_enter Tryz.func334, Tryz.ntmps334
    go_wp2_with fail
    exact bodyPost_ret (v := opV (Pl.prodOp 19)) (by simp [results, Tryz.results334, go_sem, opV, oN, oB, Pl.prodOp]) rfl ⟨rfl, rfl⟩
  have g1 : ((k : Int) == 17) = false := by simp; omega
  have g2 : ((k : Int) == 18) = false := by simp; omega
  have g3 : ((k : Int) == 19) = false := by simp; omega
  have HV : Hid (Pl.prodOp k = none) := by unfold Hid Pl.prodOp; rw [if_neg h1, if_neg h2, if_neg h3]
  go_enter Tryz.func334, Tryz.ntmps334
  go_wp2_with fail
  exact bodyPost_ret (v := opV none) (by simp [results, Tryz.results334, go_sem, opV, oN, oB]) rfl ⟨by rw [HV.out], rfl⟩

set_option maxHeartbeats 1000000 in
set_option maxRecDepth 100000 in
theorem chainC (fp fo : FuncId) (hep : Ent fp) (heo : Ent fo) (d : Nat) (part : Pl.P) (op : Nat → Option Nat) (h0 : op 0 = none) (hs : Pl.Shr part) (HP : CQ fp d part) (HO : ∀ (k : Nat) (w : World), Calls Tryz.prog fo #[.int .i64 k] w fun e w' => e = .returned (opV (op k)) ∧ w' = w)
    (rb : Nat) (T ts : List Pl.Tok) (b : Bool) (w : World) (hR : RC w rb T ts d b) :
    Calls Tryz.prog 330 #[.pointer (some ⟨rb, 0, none⟩), .func (.func fp) #[.pointer (some ⟨rb, 0, none⟩)] #[], .func (.func fo) #[] #[]] w (PostR w rb T d b (Pl.chained part op ts)) := by
  have hep' : ∀ (a : Array Value) (w : World), (callFunc fp a).run Tryz.prog w = .ok (.enter fp a) w := hep
  have heo' : ∀ (a : Array Value) (w : World), (callFunc fo a).run Tryz.prog w = .ok (.enter fo a) w := heo
  have HPt := hide HP
  have HOt := hide HO
  have HR := hide hR
  have HS := hide hs
  have H0 := hide h0
  have hz := hR.lt
  clear HP hR hs HO h0 hep heo
  generalize hsp : Pl.chained part op ts = sp
  have HSP := hide hsp
  clear hsp
  go_enter Tryz.func330, Tryz.ntmps330
  go_wp2_with fail
  refine (unhide HPt rb T ts b w HR.out).mono ?_
  rintro e w1 ⟨hk1, a, rfl, hp⟩
  have hl := loopC_start (op := op) HS.out hk1 hp
  rw [HSP.out] at hl
  obtain ⟨ts1, b1, hl⟩ := hl.x
  have HL := hide hl
  have hz1 := hk1.size
  have HPk := hide (peekC rb T ts1 d b1 w1 hl.2.1)
  clear hk1 hp hl
  go_wp2_with fail
  refine (unhide HPk).mono ?_
  rintro e w2 ⟨rfl, hr2, hk2⟩
  have HL2 := hide (HL.out.keeps hk2 hr2)
  clear hr2 hk2 HPk HL
  go_wp2_with fail
  refine (unhide HOt (Pl.hd ts1).k w2).mono ?_
  rintro e w3 ⟨rfl, rfl⟩
  unfold opV
  go_wp2_with fail
  go_loopg [7, 8, 9] (ts.length + 1) (fun g x o k wr => ∃ a tr b', x = .pointer a ∧ o = .int .i64 (oN (op (Pl.hd tr).k)) ∧ k = .bool (oB (op (Pl.hd tr).k)) ∧ Hid (LoopX w wr rb T d b part op sp g a tr b'))
  case atStart => exact ⟨a, ts1, b1, rfl, rfl, rfl, HL2⟩
  case round =>
    obtain ⟨a', tr, b', rfl, rfl, rfl, HI⟩ := hrel
    clear HL2
    obtain ⟨hk, hr, hi⟩ := HI.out
    have HK := hide hk
    have hzr := hr.lt
    cases hop : op (Pl.hd tr).k with
    | none =>
      have HE : Hid (PostR w rb T d b sp (.returned (.pointer a')) wr) := by
        rcases hi with ⟨rfl, x, h1, h2, h3⟩ | ⟨h1, h2, rfl, h3⟩
        · exact PostR.some_ (by rw [← h3]; exact chain_end hop) hk h2 hr
        · exact PostR.none_ h3 hk (h2 ▸ hr)
      clear hk hr hi HI
      rw [show oB none = false from rfl, show oN none = 0 from rfl]
      go_wp2_with fail
      go_ret
      exact HE.out
    | some o =>
      rw [show oB (some o) = true from rfl, show oN (some o) = (o : Nat) from rfl]
      rcases hi with ⟨rfl, x, h1, h2, h3⟩ | ⟨h1, h2, h4, h3⟩
      · have htr : tr ≠ [] := fun e => by rw [e] at hop; have := H0.out; rw [show (Pl.hd ([] : List Pl.Tok)).k = 0 from rfl, this] at hop; cases hop
        obtain ⟨p, c1, cf, hp, rfl, hr2⟩ := hr.next htr
        have HR2 := hide hr2
        have HX := hide h2
        have HC := hide h3
        have HOP := hide hop
        have htl : 1 ≤ tr.length := by cases tr with
          | nil => exact absurd rfl htr
          | cons q l => simp
        clear hk hr HI hr2 h2 h3 hop htr
        go_wp2_with fail
        refine (unhide HPt rb T tr.tail false _ HR2.out).mono ?_
        rintro e w3 ⟨hk3, a3, rfl, hp3⟩
        have hk3' := (HK.out.set 1 (.int .i64 ((p : Int) + 1))).trans hk3
        have hx3 := HX.out.keeps (((Keeps.refl rb wr).set 1 (.int .i64 ((p : Int) + 1))).trans hk3)
        have HNX : Hid (∃ g2 tr2 b2, g2 ≤ tr.length ∧ LoopX w (w3.alloc (.cells #[.int .i64 o, .int .i64 0, .int .i64 0, .string { data := #[] }, .string { data := #[] }, .string { data := #[] }, .pointer a', .pointer a3] 269)) rb T d false part op sp g2 (some ⟨w3.heap.size, 0, none⟩) tr2 b2) := by
          cases hq : part tr.tail with
          | none =>
            rw [hq] at hp3
            exact ⟨1, [], true, htl, hk3'.alloc _, hp3.alloc _, .inr ⟨by omega, rfl, rfl, by rw [← HC.out]; exact chain_bad HOP.out hq⟩⟩
          | some y =>
            obtain ⟨y, r⟩ := y
            rw [hq] at hp3
            have hst := chain_step (x := x) HS.out H0.out HOP.out hq
            exact ⟨r.length + 1, r, false, by omega, hk3'.alloc _, hp3.2.alloc _, .inl ⟨rfl, _, by omega, CTree.two hp3.2.lt o x y _ _ (blk_new _ _) (hx3.keeps ((Keeps.refl _ _).alloc _)) (hp3.1.keeps ((Keeps.refl _ _).alloc _)), by rw [← hst.1, HC.out]⟩⟩
        clear hk3 hp3 hk3' hx3
        obtain ⟨g2, tr2, b2, hg2, hl⟩ := HNX.out
        have HL4 := hide hl
        have HPk := hide (peekC rb T tr2 d b2 _ hl.2.1)
        clear hl HNX
        go_wp2_with fail
        refine (unhide HPk).mono ?_
        rintro e w4 ⟨rfl, hr4, hk4⟩
        have HL5 := hide (HL4.out.keeps hk4 hr4)
        clear hr4 hk4 HPk HL4
        go_wp2_with fail
        refine (unhide HOt (Pl.hd tr2).k w4).mono ?_
        rintro e w5 ⟨rfl, rfl⟩
        unfold opV
        go_wp2_with fail
        go_roundg g2
        case measure => exact Nat.lt_of_le_of_lt hg2 h1
        case rel => exact ⟨_, tr2, b2, rfl, rfl, rfl, HL5⟩
      · exfalso
        subst h2
        rw [show (Pl.hd ([] : List Pl.Tok)).k = 0 from rfl, H0.out] at hop
        cases hop
end Go.Proofs.YtojdpjpldokjmaaGreatDoor
/- The code's reader of values: comparisons; values whole. -/
namespace Go.Proofs.YtojdpjpldokjmaaGreatDoor
open Go.RowKit Go.Deep
set_option linter.unusedSimpArgs false
set_option linter.unusedVariables false
set_option maxHeartbeats 400000 in
set_option maxRecDepth 100000 in
theorem comparisonOpC (k : Nat) (w : World) : Calls Tryz.prog 317 #[.int .i64 k] w fun e w' => e = .returned (opV (Pl.cmpOp k)) ∧ w' = w := by
  by_cases h0 : k = 12
  · subst h0
    go_enter Tryz.func317, Tryz.ntmps317
    go_wp2_with fail
    exact bodyPost_ret (v := opV (Pl.cmpOp 12)) (by simp [results, Tryz.results317, go_sem, opV, oN, oB, Pl.cmpOp]) rfl ⟨rfl, rfl⟩
  by_cases h1 : k = 4
  · subst h1
    go_enter Tryz.func317, Tryz.ntmps317
    go_wp2_with fail
    exact bodyPost_ret (v := opV (Pl.cmpOp 4)) (by simp [results, Tryz.results317, go_sem, opV, oN, oB, Pl.cmpOp]) rfl ⟨rfl, rfl⟩
  by_cases h2 : k = 13
  · subst h2
    go_enter Tryz.func317, Tryz.ntmps317
    go_wp2_with fail
    exact bodyPost_ret (v := opV (Pl.cmpOp 13)) (by simp [results, Tryz.results317, go_sem, opV, oN, oB, Pl.cmpOp]) rfl ⟨rfl, rfl⟩
  by_cases h3 : k = 5
  · subst h3
    go_enter Tryz.func317, Tryz.ntmps317
    go_wp2_with fail
    exact bodyPost_ret (v := opV (Pl.cmpOp 5)) (by simp [results, Tryz.results317, go_sem, opV, oN, oB, Pl.cmpOp]) rfl ⟨rfl, rfl⟩
  by_cases h4 : k = 14
  · subst h4
    go_enter Tryz.func317, Tryz.ntmps317
    go_wp2_with fail
    exact bodyPost_ret (v := opV (Pl.cmpOp 14)) (by simp [results, Tryz.results317, go_sem, opV, oN, oB, Pl.cmpOp]) rfl ⟨rfl, rfl⟩
  by_cases h5 : k = 6
  · subst h5
    go_enter Tryz.func317, Tryz.ntmps317
    go_wp2_with fail
    exact bodyPost_ret (v := opV (Pl.cmpOp 6)) (by simp [results, Tryz.results317, go_sem, opV, oN, oB, Pl.cmpOp]) rfl ⟨rfl, rfl⟩
  have g0 : ((k : Int) == 12) = false := by simp; omega
  have g1 : ((k : Int) == 4) = false := by simp; omega
  have g2 : ((k : Int) == 13) = false := by simp; omega
  have g3 : ((k : Int) == 5) = false := by simp; omega
  have g4 : ((k : Int) == 14) = false := by simp; omega
  have g5 : ((k : Int) == 6) = false := by simp; omega
  have HV : Hid (Pl.cmpOp k = none) := by unfold Hid Pl.cmpOp; rw [if_neg h0, if_neg h1, if_neg h2, if_neg h3, if_neg h4, if_neg h5]
  go_enter Tryz.func317, Tryz.ntmps317
  go_wp2_with fail
  exact bodyPost_ret (v := opV none) (by simp [results, Tryz.results317, go_sem, opV, oN, oB]) rfl ⟨by rw [HV.out], rfl⟩

set_option maxHeartbeats 400000 in
set_option maxRecDepth 100000 in
theorem productC (d : Nat) (part : Pl.P) (hs : Pl.Shr part) (HP : CQ 333 d part) : CQ 331 d (Pl.chained part Pl.prodOp) := by
  intro rb T ts b w hR
  have HC := hide (chainC 333 334 (fun a w => by go_simp) (fun a w => by go_simp) d part Pl.prodOp rfl hs HP productOpC rb T ts b w hR)
  clear HP hs hR
  go_enter Tryz.func331, Tryz.ntmps331
  go_wp2_with fail
  refine (unhide HC).mono ?_
  rintro e w2 ⟨hk2, a, rfl, hp⟩
  go_wp2_with fail
  go_ret
  exact ⟨hk2, a, rfl, hp⟩

set_option maxHeartbeats 400000 in
set_option maxRecDepth 100000 in
theorem sumC (d : Nat) (part : Pl.P) (hs : Pl.Shr part) (HP : CQ 331 d part) : CQ 315 d (Pl.chained part Pl.sumOp) := by
  intro rb T ts b w hR
  have HC := hide (chainC 331 332 (fun a w => by go_simp) (fun a w => by go_simp) d part Pl.sumOp rfl hs HP sumOpC rb T ts b w hR)
  clear HP hs hR
  go_enter Tryz.func315, Tryz.ntmps315
  go_wp2_with fail
  refine (unhide HC).mono ?_
  rintro e w2 ⟨hk2, a, rfl, hp⟩
  go_wp2_with fail
  go_ret
  exact ⟨hk2, a, rfl, hp⟩

set_option maxHeartbeats 1000000 in
set_option maxRecDepth 100000 in
theorem nullnessC (rb : Nat) (T ts : List Pl.Tok) (d : Nat) (b : Bool) (x : Pl.T) (a : Option Addr) (w : World) (hR : RC w rb T ts d b) (hx : CTree w rb x (.pointer a)) :
    Calls Tryz.prog 316 #[.pointer (some ⟨rb, 0, none⟩), .pointer a] w (PostR w rb T d b (Pl.pIs x ts)) := by
  have HT := hide (takeC 43 (by decide) rb T ts d b w hR)
  have HX := hide hx
  have hz := hR.lt
  clear hR hx
  by_cases h43 : (Pl.hd ts).k = 43
  · have hxx := nxn h43
    rw [hxx, (nx_yes (b := b) hxx).2.2.2] at HT
    have HV : Hid (Pl.pIs x ts = if (Pl.hd ts.tail).k = 45 then some (Pl.tOne 5 x, ts.tail.tail) else none) := by unfold Hid Pl.pIs; rw [if_pos h43]
    clear hxx h43
    go_enter Tryz.func316, Tryz.ntmps316
    go_wp2_with fail
    refine (unhide HT).mono ?_
    rintro e w1 ⟨rfl, hr1, hk1⟩
    have hz1 := hr1.lt
    have HN := hide (needC [45] 1 rfl (by decide) (by decide) w1.heap.size 1 rb T ts.tail d b _ (hr1.alloc (.cells #[.int .i64 45] 129)) (kinds_new w1 [45] _ _ rfl) (by omega))
    rw [needs1] at HN
    have HK1 := hide hk1
    have HX1 := hide (HX.out.keeps hk1)
    clear hr1 hk1 HT
    go_wp2_with fail
    refine (unhide HN).mono ?_
    rintro e w2 ⟨rfl, hr2, hk2⟩
    have HR2 := hide hr2
    have HK2 := hide ((HK1.out.alloc (.cells #[.int .i64 45] 129)).trans hk2)
    have HX2 := hide (HX1.out.keeps (((Keeps.refl _ _).alloc (.cells #[.int .i64 45] 129)).trans hk2))
    clear hr2 hk2 HN
    go_wp2_with fail
    go_ret
    have h := HR2.out
    by_cases h45 : (Pl.hd ts.tail).k = 45
    · rw [if_pos h45] at h
      have h : RC w2 rb T _ d b := h
      exact PostR.some_ (by rw [HV.out, if_pos h45]) (HK2.out.alloc _) (CTree.one h.lt 5 x _ (blk_new _ _) (HX2.out.keeps ((Keeps.refl _ _).alloc _))) (h.alloc _)
    · rw [if_neg h45] at h
      have h : RC w2 rb T [] d true := h
      exact PostR.none_ (by rw [HV.out, if_neg h45]) (HK2.out.alloc _) (h.alloc _)
  · have hxx := nxf h43
    rw [hxx, (nx_no (b := b) hxx).2.2.2] at HT
    have HV : Hid (Pl.pIs x ts = if (Pl.hd ts).k = 45 then some (Pl.tOne 4 x, ts.tail) else none) := by unfold Hid Pl.pIs; rw [if_neg h43]
    clear hxx h43
    go_enter Tryz.func316, Tryz.ntmps316
    go_wp2_with fail
    refine (unhide HT).mono ?_
    rintro e w1 ⟨rfl, hr1, hk1⟩
    have hz1 := hr1.lt
    have HN := hide (needC [45] 1 rfl (by decide) (by decide) w1.heap.size 1 rb T ts d b _ (hr1.alloc (.cells #[.int .i64 45] 129)) (kinds_new w1 [45] _ _ rfl) (by omega))
    rw [needs1] at HN
    have HK1 := hide hk1
    have HX1 := hide (HX.out.keeps hk1)
    clear hr1 hk1 HT
    go_wp2_with fail
    refine (unhide HN).mono ?_
    rintro e w2 ⟨rfl, hr2, hk2⟩
    have HR2 := hide hr2
    have HK2 := hide ((HK1.out.alloc (.cells #[.int .i64 45] 129)).trans hk2)
    have HX2 := hide (HX1.out.keeps (((Keeps.refl _ _).alloc (.cells #[.int .i64 45] 129)).trans hk2))
    clear hr2 hk2 HN
    go_wp2_with fail
    go_ret
    have h := HR2.out
    by_cases h45 : (Pl.hd ts).k = 45
    · rw [if_pos h45] at h
      have h : RC w2 rb T _ d b := h
      exact PostR.some_ (by rw [HV.out, if_pos h45]) (HK2.out.alloc _) (CTree.one h.lt 4 x _ (blk_new _ _) (HX2.out.keeps ((Keeps.refl _ _).alloc _))) (h.alloc _)
    · rw [if_neg h45] at h
      have h : RC w2 rb T [] d true := h
      exact PostR.none_ (by rw [HV.out, if_neg h45]) (HK2.out.alloc _) (h.alloc _)

set_option maxHeartbeats 1000000 in
set_option maxRecDepth 100000 in
theorem comparisonC (d : Nat) (sum : Pl.P) (HS : CQ 315 d sum) : CQ 284 d (Pl.pComp sum) := by
  intro rb T ts b w hR
  have HSt := hide HS
  have HR := hide hR
  have hz := hR.lt
  clear HS hR
  go_enter Tryz.func284, Tryz.ntmps284
  go_wp2_with fail
  refine (unhide HSt rb T ts b w HR.out).mono ?_
  rintro e w1 ⟨hk1, a, rfl, hp⟩
  have HK1 := hide hk1
  clear hk1
  cases hq : sum ts with
  | none =>
    rw [hq] at hp
    have HV : Hid (Pl.pComp sum ts = none) := by unfold Hid Pl.pComp; rw [hq]
    have HT := hide (takeC 44 (by decide) rb T [] d true w1 hp)
    rw [show hk ([] : List Pl.Tok) 44 = false from rfl, show tl [] 44 = [] from rfl] at HT
    clear hp hq
    go_wp2_with fail
    refine (unhide HT).mono ?_
    rintro e w2 ⟨rfl, hr2, hk2⟩
    have HK2 := hide (HK1.out.trans hk2)
    have HPk := hide (peekC rb T [] d true w2 hr2)
    clear hr2 hk2 HT
    go_wp2_with fail
    refine (unhide HPk).mono ?_
    rintro e w3 ⟨rfl, hr3, hk3⟩
    have HK3 := hide (HK2.out.trans hk3)
    have HR3 := hide hr3
    clear hr3 hk3 HPk
    go_wp2_with fail
    refine (comparisonOpC (Pl.hd ([] : List Pl.Tok)).k w3).mono ?_
    rintro e w4 ⟨rfl, rfl⟩
    rw [show opV (Pl.cmpOp (Pl.hd ([] : List Pl.Tok)).k) = .tuple #[.int .i64 0, .bool false] from rfl]
    go_wp2_with fail
    go_ret
    exact PostR.none_ HV.out HK3.out HR3.out
  | some y =>
    obtain ⟨x, r⟩ := y
    rw [hq] at hp
    obtain ⟨hx, hr⟩ := hp
    have HX1 := hide hx
    have HT := hide (takeC 44 (by decide) rb T r d b w1 hr)
    clear hx hr
    by_cases h44 : (Pl.hd r).k = 44
    · have HV : Hid (Pl.pComp sum ts = Pl.pIs x r.tail) := by unfold Hid Pl.pComp; rw [hq]; simp only; rw [h44]; rfl
      have hxx := nxn h44
      rw [hxx, (nx_yes (b := b) hxx).2.2.2] at HT
      clear hxx h44 hq
      go_wp2_with fail
      refine (unhide HT).mono ?_
      rintro e w2 ⟨rfl, hr2, hk2⟩
      have HK2 := hide (HK1.out.trans hk2)
      have HN := hide (nullnessC rb T r.tail d b x a w2 hr2 (HX1.out.keeps hk2))
      clear hr2 hk2 HT
      go_wp2_with fail
      refine (unhide HN).mono ?_
      rintro e w3 ⟨hk3, a3, rfl, hp3⟩
      go_wp2_with fail
      go_ret
      exact ⟨HK2.out.trans hk3, a3, rfl, by rw [HV.out]; exact hp3⟩
    · have hxx := nxf h44
      rw [hxx, (nx_no (b := b) hxx).2.2.2] at HT
      clear hxx
      go_wp2_with fail
      refine (unhide HT).mono ?_
      rintro e w2 ⟨rfl, hr2, hk2⟩
      have HK2 := hide (HK1.out.trans hk2)
      have HX2 := hide (HX1.out.keeps hk2)
      have HPk := hide (peekC rb T r d b w2 hr2)
      clear hr2 hk2 HT
      go_wp2_with fail
      refine (unhide HPk).mono ?_
      rintro e w3 ⟨rfl, hr3, hk3⟩
      have HK3 := hide (HK2.out.trans hk3)
      have HX3 := hide (HX2.out.keeps hk3)
      have HR3 := hide hr3
      clear hr3 hk3 HPk
      go_wp2_with fail
      refine (comparisonOpC (Pl.hd r).k w3).mono ?_
      rintro e w4 ⟨rfl, rfl⟩
      cases ho : Pl.cmpOp (Pl.hd r).k with
      | none =>
        have HV : Hid (Pl.pComp sum ts = some (x, r)) := by unfold Hid Pl.pComp; rw [hq]; simp only; rw [ho]; simp only; rw [if_neg h44]
        rw [show opV none = .tuple #[.int .i64 0, .bool false] from rfl]
        clear ho hq h44
        go_wp2_with fail
        go_ret
        exact PostR.some_ HV.out HK3.out HX3.out HR3.out
      | some o =>
        have HV : Hid (Pl.pComp sum ts = match sum r.tail with | none => none | some (y, r') => some (Pl.tTwo o x y, r')) := by unfold Hid Pl.pComp; rw [hq]; simp only; rw [ho]; rfl
        rw [show opV (some o) = .tuple #[.int .i64 (o : Nat), .bool true] from rfl]
        have hne : r ≠ [] := fun e => by rw [e] at ho; cases ho
        obtain ⟨p, c1, cf, hp5, rfl, hr5⟩ := HR3.out.next hne
        have HR5 := hide hr5
        have hz3 := HR3.out.lt
        clear ho hq h44 hr5 hne
        go_wp2_with fail
        refine (unhide HSt rb T r.tail false _ HR5.out).mono ?_
        rintro e w6 ⟨hk6, a6, rfl, hp6⟩
        have HK6 := hide ((HK3.out.set 1 (.int .i64 ((p : Int) + 1))).trans hk6)
        have HX6 := hide (HX3.out.keeps (((Keeps.refl _ _).set 1 (.int .i64 ((p : Int) + 1))).trans hk6))
        have HP6 := hide hp6
        clear hk6 hp6
        go_wp2_with fail
        go_ret
        have hq6 := HP6.out
        cases hv : sum r.tail with
        | none =>
          rw [hv] at hq6
          exact PostR.none_ (by rw [HV.out, hv]) (HK6.out.alloc _) (hq6.alloc _)
        | some y =>
          obtain ⟨y, r'⟩ := y
          rw [hv] at hq6
          exact PostR.some_ (by rw [HV.out, hv]) (HK6.out.alloc _) (CTree.two hq6.2.lt o x y _ _ (blk_new _ _) (HX6.out.keeps ((Keeps.refl _ _).alloc _)) (hq6.1.keeps ((Keeps.refl _ _).alloc _))) (hq6.2.alloc _)

/-- One depth, the next being read. -/
theorem levelC (d : Nat) (hd : d ≤ 20) (v : Pl.Lv) (hshr : Pl.Shr v.signed ∧ Pl.Shr v.prod ∧ Pl.Shr v.no' ∧ Pl.Shr v.both)
    (H : d < 20 → CQ 154 (d + 1) v.val ∧ CQ 250 (d + 1) v.no ∧ CQ 333 (d + 1) v.sgn)
    (H0 : d = 20 → (∀ ts, v.val ts = none) ∧ (∀ ts, v.no ts = none) ∧ (∀ ts, v.sgn ts = none)) :
    CQ 154 d v.value ∧ CQ 250 d v.no' ∧ CQ 333 d v.signed := by
  have h1 := singleC d v (bracketsC d hd v.val (fun h => (H h).1) (fun h => (H0 h).1))
  have h2 := signedC d hd v (fun h => (H h).2.2) (fun h => (H0 h).2.2) h1
  have h3 : CQ 331 d v.prod := productC d v.signed hshr.1 h2
  have h4 : CQ 315 d v.sum := sumC d v.prod hshr.2.1 h3
  have h5 : CQ 284 d v.comp := comparisonC d v.sum h4
  have h6 := noC d hd v (fun h => (H h).2.1) (fun h => (H0 h).2.1) h5
  have h7 : CQ 210 d v.both := bothC d v.no' hshr.2.2.1 h6
  have h8 : CQ 154 d v.value := valueC d v.both hshr.2.2.2 h7
  exact ⟨h8, h6, h2⟩
theorem levelsC : ∀ (k d : Nat), d + k = 20 → CQ 154 d (Pl.lv k).value ∧ CQ 250 d (Pl.lv k).no' ∧ CQ 333 d (Pl.lv k).signed
  | 0, d, h => by
    have hs := Pl.lv_shr 0
    exact levelC d (by omega) _ ⟨hs.2.2.2.2.1, hs.2.2.2.2.2.1, hs.2.2.2.2.2.2.2.2.1, hs.2.2.2.2.2.2.2.2.2.1⟩ (fun h => by omega) (fun _ => ⟨fun _ => rfl, fun _ => rfl, fun _ => rfl⟩)
  | k + 1, d, h => by
    have hs := Pl.lv_shr (k + 1)
    exact levelC d (by omega) _ ⟨hs.2.2.2.2.1, hs.2.2.2.2.2.1, hs.2.2.2.2.2.2.2.2.1, hs.2.2.2.2.2.2.2.2.2.1⟩ (fun _ => levelsC k (d + 1) (by omega)) (fun h => by omega)
/-- A VALUE OF THE CODE's: read from tokens as the plain reader reads it. -/
theorem codeValue : CQ 154 0 (Pl.pVal 20) := (levelsC 20 0 rfl).1
end Go.Proofs.YtojdpjpldokjmaaGreatDoor
/- The code's lists of a statement: what they hold in memory; values. -/
namespace Go.Proofs.YtojdpjpldokjmaaGreatDoor
open Go.RowKit Go.Deep
set_option linter.unusedSimpArgs false
set_option linter.unusedVariables false

/-- The cells of a list's items: each by its shape, over the address of its value. -/
def ItAt (w : World) (rb : Nat) (sh : Pl.It → Value → List Value) : List Pl.It → List Value → Prop
  | [], cs => cs = []
  | it :: its, cs => ∃ (a : Option Addr) (rest : List Value), cs = sh it (.pointer a) ++ rest ∧ CTree w rb it.tree (.pointer a) ∧ ItAt w rb sh its rest
theorem ItAt.snoc {w : World} {rb : Nat} {sh : Pl.It → Value → List Value} {it : Pl.It} {a : Option Addr} (hx : CTree w rb it.tree (.pointer a)) : ∀ {its : List Pl.It} {cs : List Value}, ItAt w rb sh its cs → ItAt w rb sh (its ++ [it]) (cs ++ sh it (.pointer a))
  | [], cs, h => by
    have : cs = [] := h
    subst this
    exact ⟨a, [], by simp, hx, rfl⟩
  | j :: its, cs, ⟨b, rest, hc, ht, hr⟩ => ⟨b, rest ++ sh it (.pointer a), by rw [hc]; simp, ht, ItAt.snoc hx hr⟩
theorem ItAt.mono {w w' : World} {rb : Nat} {sh : Pl.It → Value → List Value} (hm : ∀ (t : Pl.T) (v : Value), CTree w rb t v → CTree w' rb t v) : ∀ {its : List Pl.It} {cs : List Value}, ItAt w rb sh its cs → ItAt w' rb sh its cs
  | [], _, h => h
  | _ :: _, _, ⟨b, rest, hc, ht, hr⟩ => ⟨b, rest, hc, hm _ _ ht, ItAt.mono hm hr⟩
/-- A tree stays as it is where a row of another type is written, or a new one made. -/
theorem CTree.grown {w w' : World} {rb : Nat} {row : Option Nat} (hg : w.grownBy w' row) (hrow : ∀ k, row = some k → ∃ cur e, w.heap[k]? = some (.cells cur e (0, 0)) ∧ e ≠ 269) : ∀ {t : Pl.T} {v : Value}, CTree w rb t v → CTree w' rb t v
  | .nil, _, h => h
  | .node _ _ a l r, v, ⟨n, vl, vr, hv, hn, hb, hl, hr⟩ => ⟨n, vl, vr, hv, hn, by
      rw [hg.block n (lt_of_blk hb) (fun e => by
        obtain ⟨cur, e', h1, h2⟩ := hrow n e.symm
        rw [hb] at h1
        injection h1 with h1
        injection h1 with _ h1 _
        exact h2 h1.symm), hb], CTree.grown hg hrow hl, CTree.grown hg hrow hr⟩
def ItsW (w : World) (rb base : Nat) (e : TypeId) (size : Nat) (sh : Pl.It → Value → List Value) (its : List Pl.It) (v : Value) : Prop := ∃ cs, w.ownsRow base e size v its.length cs ∧ ItAt w rb sh its cs
theorem ItsW.keeps {w w' : World} {rb base : Nat} {e : TypeId} {size : Nat} {sh : Pl.It → Value → List Value} {its : List Pl.It} {v : Value} (hk : Keeps rb w w') (hb : rb < base) (h : ItsW w rb base e size sh its v) : ItsW w' rb base e size sh its v := by
  obtain ⟨cs, h1, h2⟩ := h
  exact ⟨cs, own_keeps hk hb h1, h2.mono (fun t v => CTree.keeps hk)⟩
theorem RC.grown {w w' : World} {rb : Nat} {T ts : List Pl.Tok} {d : Nat} {b : Bool} {row : Option Nat} (h : RC w rb T ts d b) (hg : w.grownBy w' row) (hr : ∀ k, row = some k → rb < k) : RC w' rb T ts d b := by
  obtain ⟨v, p, h1, h2, h3, h4, h5, h6⟩ := h
  refine ⟨v, p, by rw [hg.block rb (lt_of_blk h1) (fun e => by have := hr rb e.symm; omega)]; exact h1, h2, h3, h4, h5, ?_⟩
  rcases h6 with h6 | ⟨g, cap, cur, k1, k2, k3, k4⟩
  · exact .inl h6
  · exact .inr ⟨g, cap, cur, k1, k2, by rw [hg.block g (lt_of_blk k3) (fun e => by have := hr g e.symm; omega)]; exact k3, k4⟩
theorem RC.len {w : World} {rb : Nat} {T ts : List Pl.Tok} {d : Nat} {b : Bool} (h : RC w rb T ts d b) : ts.length ≤ 1048576 := by
  have h1 := h.drop.2
  obtain ⟨v, p, _, _, _, _, h5⟩ := h
  have := h5.1
  omega
/-- An item behind the others: all that the loop keeps, in the world behind the append. -/
theorem pushC {w w1 w2 : World} {rb : Nat} {T : List Pl.Tok} {e : TypeId} {size n : Nat} {v : Value} {cs C : List Value} {t : TypeId} (he : e ≠ 269) (hrb : rb < w.heap.size) (hk : Keeps rb w w1) (hown : w1.ownsRow w.heap.size e size v n cs)
    (hg : (w1.alloc (.cells C.toArray t)).grownBy w2 v.ownBlock) : Keeps rb w w2 ∧ (∀ ts d b, RC w1 rb T ts d b → RC w2 rb T ts d b) ∧ (∀ t v, CTree w1 rb t v → CTree w2 rb t v) := by
  have hlt : ∀ k, v.ownBlock = some k → w.heap.size ≤ k := fun k e => (hown.lt k e).1
  refine ⟨(hk.alloc _).grown hg hlt, fun ts d b h => (h.alloc _).grown hg (fun k e => by have := hlt k e; omega), fun x u h => ?_⟩
  refine CTree.grown hg (fun k hk => ?_) (h.keeps ((Keeps.refl rb w1).alloc _))
  obtain ⟨cur, hc⟩ := own_row (hown.alloc (.cells C.toArray t)) k hk
  exact ⟨cur, _, hc, he⟩

/-- What a reading of an item leaves. -/
def PostO (val : Pl.It → Value → Value) (w : World) (rb : Nat) (T : List Pl.Tok) (d : Nat) (b : Bool) (spec : Option (Pl.It × List Pl.Tok)) (e : Ending) (w' : World) : Prop :=
  Keeps rb w w' ∧ ∃ (it : Pl.It) (a : Option Addr), e = .returned (val it (.pointer a)) ∧ match spec with
    | some (x, r) => it = x ∧ CTree w' rb x.tree (.pointer a) ∧ RC w' rb T r d b
    | none => RC w' rb T [] d true
def CO (val : Pl.It → Value → Value) (f : FuncId) (p : Pl.PI) : Prop := ∀ rb T ts b w, RC w rb T ts 0 b → Calls Tryz.prog f #[.pointer (some ⟨rb, 0, none⟩)] w (PostO val w rb T 0 b (p ts))
/-- What a reading of a list leaves. -/
def PostL (e : TypeId) (size : Nat) (sh : Pl.It → Value → List Value) (w : World) (rb : Nat) (T : List Pl.Tok) (d : Nat) (b : Bool) (spec : Option (List Pl.It × List Pl.Tok)) (en : Ending) (w' : World) : Prop :=
  Keeps rb w w' ∧ ∃ (a : Option Addr) (n c : Nat), en = .returned (.slice a n c) ∧ match spec with
    | some (its, r) => ItsW w' rb w.heap.size e size sh its (.slice a n c) ∧ RC w' rb T r d b
    | none => RC w' rb T [] d true
/-- Where a list's loop stands: some items read, more to come, or none; or something is wrong. -/
def LoopL (w wr : World) (rb : Nat) (T : List Pl.Tok) (b : Bool) (e : TypeId) (size : Nat) (sh : Pl.It → Value → List Value) (p : Pl.PI) (sp : Option (List Pl.It × List Pl.Tok)) (g n : Nat) (v : Value) (cs : List Value) : Prop :=
  Keeps rb w wr ∧ wr.ownsRow w.heap.size e size v n cs ∧ ((∃ its r, n = its.length ∧ r.length < g ∧ its.length + r.length ≤ 1048577 ∧ ItAt wr rb sh its cs ∧ RC wr rb T r 0 b ∧ (if (Pl.hd r).k = 9 then Pl.more p (r.tail.length + 1) its r.tail else some (its, r)) = sp) ∨ (0 < g ∧ n ≤ 1048577 ∧ RC wr rb T [] 0 true ∧ sp = none))

theorem own_new (w1 : World) (base n size : Nat) (C : List Value) (t : TypeId) (hb : base ≤ w1.heap.size) (hn : n ≤ maxLen) (hC : C.length = n * size) : (w1.alloc (.cells C.toArray t)).ownsRow base t size (.slice (some ⟨w1.heap.size, 0, none⟩) n n) n C :=
  ⟨hC, .inr ⟨w1.heap.size, n, C.toArray, rfl, hb, blk_new _ _, Nat.le_refl _, hn, by simpa using hC, by rw [← hC]; simp⟩⟩
theorem more_unf {p : Pl.PI} (hp : Pl.ShrI p) {acc : List Pl.It} {ts r : List Pl.Tok} {x : Pl.It} (h : p ts = some (x, r)) : Pl.more p (ts.length + 1) acc ts = if (Pl.hd r).k = 9 then Pl.more p (r.tail.length + 1) (acc ++ [x]) r.tail else some (acc ++ [x], r) := by
  split
  · exact (Pl.more_step hp h ‹_›).1
  · exact Pl.more_end h ‹_›
/-- From one item more to the loop. -/
theorem loopL_next {w w1 w2 : World} {rb : Nat} {T : List Pl.Tok} {b : Bool} {e : TypeId} {size : Nat} {sh : Pl.It → Value → List Value} {p : Pl.PI} {sp : Option (List Pl.It × List Pl.Tok)} {its : List Pl.It} {tr : List Pl.Tok} {v' : Value} {cs : List Value} {it : Pl.It} {a : Option Addr} (hs : Pl.ShrI p) (hk : Keeps rb w w2)
    (hm : ∀ ts d b, RC w1 rb T ts d b → RC w2 rb T ts d b) (ht : ∀ t v, CTree w1 rb t v → CTree w2 rb t v) (hI : ItAt w1 rb sh its cs) (hb : its.length + tr.length ≤ 1048576) (hown : w2.ownsRow w.heap.size e size v' (its.length + 1) (cs ++ sh it (.pointer a)))
    (hp : match p tr with
      | some (x, r) => it = x ∧ CTree w1 rb x.tree (.pointer a) ∧ RC w1 rb T r 0 b
      | none => RC w1 rb T [] 0 true) (hsp : Pl.more p (tr.length + 1) its tr = sp) : LoopL w w2 rb T b e size sh p sp (tr.length + 1) (its.length + 1) v' (cs ++ sh it (.pointer a)) := by
  refine ⟨hk, hown, ?_⟩
  cases hq : p tr with
  | none =>
    rw [hq] at hp
    refine .inr ⟨by omega, by omega, hm _ _ _ hp, ?_⟩
    rw [← hsp]; exact Pl.more_bad hq
  | some y =>
    obtain ⟨x, r⟩ := y
    rw [hq] at hp
    obtain ⟨rfl, h1, h2⟩ := hp
    have := hs _ _ _ hq
    refine .inl ⟨its ++ [it], r, by simp, by omega, by simp; omega, (hI.mono ht).snoc (ht _ _ h1), hm _ _ _ h2, ?_⟩
    rw [← hsp, more_unf hs hq]

def valV (_ : Pl.It) (v : Value) : Value := v
def shV (_ : Pl.It) (v : Value) : List Value := [v]
theorem oneV : CO valV 154 Pl.iValue := by
  intro rb T ts b w hR
  refine (codeValue rb T ts b w hR).mono ?_
  rintro e w' ⟨hk, v, rfl, hp⟩
  unfold Pl.iValue
  cases hq : Pl.pVal 20 ts with
  | none => rw [hq] at hp; exact ⟨hk, ⟨[], [], 0, .nil, false⟩, v, rfl, hp⟩
  | some y =>
    obtain ⟨x, r⟩ := y
    rw [hq] at hp
    exact ⟨hk, ⟨[], [], 0, x, false⟩, v, rfl, rfl, hp.1, hp.2⟩
theorem Tryz.infoPV : (Tryz.prog.info? 199).map (fun i => (i.zero, i.size, i.bytes)) = some (some (.pointer none), 1, 8) := by kernel_rfl

set_option maxHeartbeats 1000000 in
set_option maxRecDepth 100000 in
theorem listV (f : FuncId) (hef : Ent f) (p : Pl.PI) (hs : Pl.ShrI p) (HP : CO valV f p) (rb : Nat) (T ts : List Pl.Tok) (b : Bool) (w : World) (hR : RC w rb T ts 0 b) :
    Calls Tryz.prog 153 #[.pointer (some ⟨rb, 0, none⟩), .func (.func f) #[.pointer (some ⟨rb, 0, none⟩)] #[]] w (PostL 199 1 shV w rb T 0 b (Pl.listed p ts)) := by
  have hef' : ∀ (a : Array Value) (w : World), (callFunc f a).run Tryz.prog w = .ok (.enter f a) w := hef
  obtain ⟨i0, hi, hz0, hz1, hz2⟩ := info_parts Tryz.infoPV
  have HPt := hide HP
  have HR := hide hR
  have HS := hide hs
  have hz := hR.lt
  have hlen := hR.len
  clear HP hR hs hef
  generalize hsp : Pl.listed p ts = sp
  have HSP := hide hsp
  clear hsp
  go_enter Tryz.func153, Tryz.ntmps153
  go_wp2_with fail
  refine (unhide HPt rb T ts b w HR.out).mono ?_
  rintro e w1 ⟨hk1, it, a, rfl, hp⟩
  have HK1 := hide hk1
  have HP1 := hide hp
  clear hk1 hp
  unfold valV
  have HL : Hid (LoopL w (w1.alloc (.cells #[.pointer a] 199)) rb T b 199 1 shV p sp (ts.length + 1) 1 (.slice (some ⟨w1.heap.size, 0, none⟩) 1 1) ([] ++ shV it (.pointer a))) := by
    have hz1 := HK1.out.size
    refine loopL_next (w1 := w1) HS.out (HK1.out.alloc _) (fun ts d b h => h.alloc _) (fun t v h => h.keeps ((Keeps.refl _ _).alloc _)) (show ItAt w1 rb shV [] [] from rfl) ?_ (own_new w1 _ 1 1 [.pointer a] _ (by omega) (by decide) rfl) HP1.out HSP.out
    simpa using hlen
  clear HP1
  go_wp2_with fail
  go_loopg [5] (ts.length + 1) (fun g x wr => ∃ n cs, Hid (LoopL w wr rb T b 199 1 shV p sp g n x cs))
  case atStart => exact ⟨1, _, HL⟩
  case round =>
    obtain ⟨n, cs, HI⟩ := hrel
    clear HL
    obtain ⟨hkw, hown, hi⟩ := HI.out
    have HK := hide hkw
    have hsz := hkw.size
    obtain ⟨va, vn, vc, rfl⟩ := own_slice hown
    rcases hi with ⟨its, r, rfl, hg, hb, hit, hr, hm⟩ | ⟨hg, hn, hr, hm⟩
    · have HIT := hide hit
      have HM := hide hm
      have HT := hide (takeC 9 (by decide) rb T r 0 b wr hr)
      have hzr := hr.lt
      by_cases h9 : (Pl.hd r).k = 9
      · have hxx := nxn h9
        rw [hxx, (nx_yes (b := b) hxx).2.2.2] at HT
        have HM2 : Hid (Pl.more p (r.tail.length + 1) its r.tail = sp) := by unfold Hid; rw [← HM.out, if_pos h9]
        have hrl := Pl.hd_tail_lt (by decide) h9
        have HO := hide hown
        clear hkw hown HI hit hm hr hxx h9
        go_wp2_with fail
        refine (unhide HT).mono ?_
        rintro e w2 ⟨rfl, hr2, hk2⟩
        have HR2 := hide hr2
        have HK2 := hide (HK.out.trans hk2)
        have HIT2 := hide (HIT.out.mono (fun t v => CTree.keeps hk2))
        have HO2 := hide (own_keeps hk2 hz HO.out)
        clear hr2 hk2 HT
        go_wp2_with fail
        refine (unhide HPt rb T r.tail b w2 HR2.out).mono ?_
        rintro e w3 ⟨hk3, it3, a3, rfl, hp3⟩
        have HK3 := hide (HK2.out.trans hk3)
        have HIT3 := hide (HIT2.out.mono (fun t v => CTree.keeps hk3))
        have hown3 := own_keeps hk3 hz HO2.out
        have HP3 := hide hp3
        have hsz3 := HK3.out.size
        clear hk3 hp3
        unfold valV
        go_wp2_with (at_builtin; refine wpList_append_own _ rfl (.tmp 11) (.tmp 14) 192 rfl w.heap.size 199 i0 _ 1 8 Tryz.underlying192 hi hz0 hz1 hz2 rfl (by decide) _ _ _ rfl (hown3.alloc _) ⟨w3.heap.size, 0, none⟩ 1 1 [.pointer a3] rfl rfl ?c1 ?c2 ?c3 ?c4 ?c5 ?_)
        case c1 => exact news_at w3 [.pointer a3] 199
        case c2 => intro u hu; simp at hu; subst hu; rfl
        case c3 => unfold maxLen; omega
        case c4 => omega
        case c5 => simp; omega
        intro v' w4 hown4 hg4 hnil
        obtain ⟨hk4, hrt4, hct4⟩ := pushC (T := T) (C := [.pointer a3]) (by decide) hz HK3.out hown3 hg4
        have HL4 := hide (loopL_next (w1 := w3) (sh := shV) (it := it3) (a := a3) HS.out hk4 hrt4 hct4 HIT3.out (by omega) hown4 HP3.out HM2.out)
        clear hown3 hown4 hg4 hnil hk4 hrt4 hct4
        go_wp2_with fail
        go_roundg (r.tail.length + 1)
        case measure => omega
        case rel => exact ⟨_, _, HL4⟩
      · have hxx := nxf h9
        rw [hxx, (nx_no (b := b) hxx).2.2.2] at HT
        have HE : Hid (sp = some (its, r)) := by unfold Hid; rw [← HM.out, if_neg h9]
        have HO := hide hown
        clear hkw hown HI hit hm hr hxx h9
        go_wp2_with fail
        refine (unhide HT).mono ?_
        rintro e w2 ⟨rfl, hr2, hk2⟩
        have HR2 := hide hr2
        have HK2 := hide (HK.out.trans hk2)
        have HIT2 := hide (HIT.out.mono (fun t v => CTree.keeps hk2))
        have HO2 := hide (own_keeps hk2 hz HO.out)
        clear hr2 hk2 HT
        go_wp2_with fail
        go_ret
        exact ⟨HK2.out, va, vn, vc, rfl, by rw [HE.out]; exact ⟨⟨cs, HO2.out, HIT2.out⟩, HR2.out⟩⟩
    · have HT := hide (takeC 9 (by decide) rb T [] 0 true wr hr)
      rw [show hk ([] : List Pl.Tok) 9 = false from rfl, show tl [] 9 = [] from rfl] at HT
      have HE := hide hm
      clear hkw hown HI hr hm
      go_wp2_with fail
      refine (unhide HT).mono ?_
      rintro e w2 ⟨rfl, hr2, hk2⟩
      have HR2 := hide hr2
      have HK2 := hide (HK.out.trans hk2)
      clear hr2 hk2 HT
      go_wp2_with fail
      go_ret
      exact ⟨HK2.out, va, vn, vc, rfl, by rw [HE.out]; exact HR2.out⟩
end Go.Proofs.YtojdpjpldokjmaaGreatDoor
