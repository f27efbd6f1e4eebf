/- The code's items: columns, settings, orders. -/
import Derived.Test.YtojdpjpldokjmaaGreatDoorJ14
import Derived.Test.YtojdpjpldokjmaaGreatDoorJ06
namespace Go.Proofs.YtojdpjpldokjmaaGreatDoor
open Go.RowKit Go.Deep
set_option linter.unusedSimpArgs false
set_option linter.unusedVariables false

def tyR (ts : List Pl.Tok) : Option (List Pl.Tok) := match Pl.typeOf (Pl.hd ts).k with
  | some _ => some ts.tail
  | none => none
def tyN (ts : List Pl.Tok) : Int := (Pl.typeOf (Pl.hd ts).k).getD 0

set_option maxHeartbeats 400000 in
set_option maxRecDepth 100000 in
theorem columnTypeC (rb : Nat) (T ts : List Pl.Tok) (d : Nat) (b : Bool) (w : World) (hR : RC w rb T ts d b) :
    Calls Tryz.prog 209 #[.pointer (some ⟨rb, 0, none⟩)] w fun e w' => e = .returned (.int .i64 (tyN ts)) ∧ RCo w' rb T (tyR ts) d b ∧ Keeps rb w w' := by
  have HRR0 := hide hR
  have HKK0 := hide (Keeps.refl rb w)
  clear hR
  by_cases h48 : (Pl.hd ts).k = 48
  · have HV : Hid (tyN ts = 1 ∧ tyR ts = some ts.tail) := by unfold Hid tyN tyR; rw [h48]; exact ⟨rfl, rfl⟩
    have hx48 := nxn h48
    go_enter Tryz.func209, Tryz.ntmps209
    have HT0 := hide (takeC 48 (by decide) rb T ts d b w HRR0.out)
    rw [hx48, (nx_yes (b := b) hx48).2.2.2] at HT0
    go_wp2_with fail
    refine (unhide HT0).mono ?_
    rintro e w1 ⟨rfl, hrr, hkk⟩
    have HRR1 := hide hrr
    have HKK1 := hide (HKK0.out.trans hkk)
    clear hrr hkk HT0
    go_wp2_with fail
    go_ret
    exact ⟨ret_int HV.out.1.symm, by rw [HV.out.2]; exact HRR1.out, HKK1.out⟩
  by_cases h49 : (Pl.hd ts).k = 49
  · have HV : Hid (tyN ts = 2 ∧ tyR ts = some ts.tail) := by unfold Hid tyN tyR; rw [h49]; exact ⟨rfl, rfl⟩
    have hx48 := nxf h48
    have hx49 := nxn h49
    go_enter Tryz.func209, Tryz.ntmps209
    have HT0 := hide (takeC 48 (by decide) rb T ts d b w HRR0.out)
    rw [hx48, (nx_no (b := b) hx48).2.2.2] at HT0
    go_wp2_with fail
    refine (unhide HT0).mono ?_
    rintro e w1 ⟨rfl, hrr, hkk⟩
    have HRR1 := hide hrr
    have HKK1 := hide (HKK0.out.trans hkk)
    clear hrr hkk HT0
    have HT1 := hide (takeC 49 (by decide) rb T ts d b w1 HRR1.out)
    rw [hx49, (nx_yes (b := b) hx49).2.2.2] at HT1
    go_wp2_with fail
    refine (unhide HT1).mono ?_
    rintro e w2 ⟨rfl, hrr, hkk⟩
    have HRR2 := hide hrr
    have HKK2 := hide (HKK1.out.trans hkk)
    clear hrr hkk HT1
    go_wp2_with fail
    go_ret
    exact ⟨ret_int HV.out.1.symm, by rw [HV.out.2]; exact HRR2.out, HKK2.out⟩
  by_cases h50 : (Pl.hd ts).k = 50
  · have HV : Hid (tyN ts = 3 ∧ tyR ts = some ts.tail) := by unfold Hid tyN tyR; rw [h50]; exact ⟨rfl, rfl⟩
    have hx48 := nxf h48
    have hx49 := nxf h49
    have hx50 := nxn h50
    go_enter Tryz.func209, Tryz.ntmps209
    have HT0 := hide (takeC 48 (by decide) rb T ts d b w HRR0.out)
    rw [hx48, (nx_no (b := b) hx48).2.2.2] at HT0
    go_wp2_with fail
    refine (unhide HT0).mono ?_
    rintro e w1 ⟨rfl, hrr, hkk⟩
    have HRR1 := hide hrr
    have HKK1 := hide (HKK0.out.trans hkk)
    clear hrr hkk HT0
    have HT1 := hide (takeC 49 (by decide) rb T ts d b w1 HRR1.out)
    rw [hx49, (nx_no (b := b) hx49).2.2.2] at HT1
    go_wp2_with fail
    refine (unhide HT1).mono ?_
    rintro e w2 ⟨rfl, hrr, hkk⟩
    have HRR2 := hide hrr
    have HKK2 := hide (HKK1.out.trans hkk)
    clear hrr hkk HT1
    have HT2 := hide (takeC 50 (by decide) rb T ts d b w2 HRR2.out)
    rw [hx50, (nx_yes (b := b) hx50).2.2.2] at HT2
    go_wp2_with fail
    refine (unhide HT2).mono ?_
    rintro e w3 ⟨rfl, hrr, hkk⟩
    have HRR3 := hide hrr
    have HKK3 := hide (HKK2.out.trans hkk)
    clear hrr hkk HT2
    go_wp2_with fail
    go_ret
    exact ⟨ret_int HV.out.1.symm, by rw [HV.out.2]; exact HRR3.out, HKK3.out⟩
  · have HV : Hid (tyN ts = 0 ∧ tyR ts = none) := by
      have e : Pl.typeOf (Pl.hd ts).k = none := by unfold Pl.typeOf; rw [if_neg h48, if_neg h49, if_neg h50]
      unfold Hid tyN tyR; rw [e]; exact ⟨rfl, rfl⟩
    have hx48 := nxf h48
    have hx49 := nxf h49
    have hx50 := nxf h50
    go_enter Tryz.func209, Tryz.ntmps209
    have HT0 := hide (takeC 48 (by decide) rb T ts d b w HRR0.out)
    rw [hx48, (nx_no (b := b) hx48).2.2.2] at HT0
    go_wp2_with fail
    refine (unhide HT0).mono ?_
    rintro e w1 ⟨rfl, hrr, hkk⟩
    have HRR1 := hide hrr
    have HKK1 := hide (HKK0.out.trans hkk)
    clear hrr hkk HT0
    have HT1 := hide (takeC 49 (by decide) rb T ts d b w1 HRR1.out)
    rw [hx49, (nx_no (b := b) hx49).2.2.2] at HT1
    go_wp2_with fail
    refine (unhide HT1).mono ?_
    rintro e w2 ⟨rfl, hrr, hkk⟩
    have HRR2 := hide hrr
    have HKK2 := hide (HKK1.out.trans hkk)
    clear hrr hkk HT1
    have HT2 := hide (takeC 50 (by decide) rb T ts d b w2 HRR2.out)
    rw [hx50, (nx_no (b := b) hx50).2.2.2] at HT2
    go_wp2_with fail
    refine (unhide HT2).mono ?_
    rintro e w3 ⟨rfl, hrr, hkk⟩
    have HRR3 := hide hrr
    have HKK3 := hide (HKK2.out.trans hkk)
    clear hrr hkk HT2
    go_wp2_with fail
    refine (failC rb T ts d b _ HRR3.out).mono ?_
    rintro e w5 ⟨rfl, hr5, hk5⟩
    go_wp2_with fail
    go_ret
    exact ⟨ret_int HV.out.1.symm, by rw [HV.out.2]; exact hr5, HKK3.out.trans hk5⟩
def valC (it : Pl.It) (_ : Value) : Value := .agg #[.string ⟨it.name.toArray⟩, .int .i64 it.type]
def shC (it : Pl.It) (_ : Value) : List Value := [.string ⟨it.name.toArray⟩, .int .i64 it.type]
def valS (it : Pl.It) (v : Value) : Value := .agg #[.string ⟨it.name.toArray⟩, v]
def shS (it : Pl.It) (v : Value) : List Value := [.string ⟨it.name.toArray⟩, v]
def valO (it : Pl.It) (v : Value) : Value := .agg #[v, .bool it.mark]
def shO (it : Pl.It) (v : Value) : List Value := [v, .bool it.mark]
/-- A tree stays as it is where a block of another type is written. -/
theorem CTree.setOther {w : World} {rb k : Nat} {C : Array Value} {e : TypeId} (hk : w.heap[k]? = some (.cells C e)) (he : e ≠ 269) (o : Nat) (x : Value) : ∀ {t : Pl.T} {v : Value}, CTree w rb t v → CTree (w.setCell ⟨k, o, none⟩ x) rb t v
  | .nil, _, h => h
  | .node _ _ a l r, v, ⟨n, vl, vr, hv, hn, hb, hl, hr⟩ => ⟨n, vl, vr, hv, hn, blk_set_ne hb (fun e1 => by
        subst e1
        rw [hb] at hk
        injection hk with hk
        injection hk with _ hk _
        exact he hk.symm) _ _, CTree.setOther hk he o x hl, CTree.setOther hk he o x hr⟩
/-- A boxed result of two cells, written at the end. -/
theorem box2 {w w' : World} {rb : Nat} {T : List Pl.Tok} {C : Array Value} {e : TypeId} (hz : rb < w.heap.size) (hk : Keeps rb w w') (hbx : w'.heap[w.heap.size]? = some (.cells C e)) (he : e ≠ 269) (x y : Value) :
    Keeps rb w ((w'.setCell ⟨w.heap.size, 0, none⟩ x).setCell ⟨w.heap.size, 1, none⟩ y) ∧ (∀ ts d b, RC w' rb T ts d b → RC ((w'.setCell ⟨w.heap.size, 0, none⟩ x).setCell ⟨w.heap.size, 1, none⟩ y) rb T ts d b) ∧ (∀ t v, CTree w' rb t v → CTree ((w'.setCell ⟨w.heap.size, 0, none⟩ x).setCell ⟨w.heap.size, 1, none⟩ y) rb t v) := by
  refine ⟨(hk.setNew (Nat.le_refl _) _).setNew (Nat.le_refl _) _, fun ts d b h => (h.setNew hz _ _).setNew hz _ _, fun t v h => ?_⟩
  exact (h.setOther hbx he 0 x).setOther (blk_set hbx 0 x) he 1 y
theorem RC0 {w : World} {rb : Nat} {T ts : List Pl.Tok} {d : Nat} (h : RC w rb T ts d true) : ts = [] := by
  obtain ⟨v, p, _, _, _, h4, _⟩ := h; exact h4 rfl

set_option maxHeartbeats 400000 in
set_option maxRecDepth 100000 in
theorem oneC : CO valC 152 Pl.iField := by
  intro rb T ts b w hR
  have HN := hide (nameC rb T ts 0 b _ (hR.alloc (.cells #[.string { data := #[] }, .int .i64 0] 97)))
  have hz := hR.lt
  clear hR
  go_enter Tryz.func152, Tryz.ntmps152
  go_wp2_with fail
  refine (unhide HN).mono ?_
  rintro e w1 ⟨rfl, hr1, hk1⟩
  have HC := hide (columnTypeC rb T (nx ts 1) 0 (bx ts 1 b) w1 hr1)
  have HK1 := hide hk1
  clear hr1 hk1 HN
  go_wp2_with fail
  refine (unhide HC).mono ?_
  rintro e w2 ⟨rfl, hr2, hk2⟩
  have hk12 := HK1.out.trans hk2
  have hbx := hk12.blk (by omega) (blk_new w (.cells #[.string { data := #[] }, .int .i64 0] 97))
  have b0 := blk_cell hbx 0
  have b1 := blk_cell hbx 1
  have bf := blk_frozen hbx
  have hzb := lt_of_blk hbx
  simp at b0 b1
  have HBX := hide (box2 (T := T) hz (((Keeps.refl rb w).alloc (.cells #[.string { data := #[] }, .int .i64 0] 97)).trans hk12) hbx (by decide))
  have HR2 := hide hr2
  clear hr2 hk2 hk12 hbx
  go_wp2_with fail
  refine bodyPost_ret (v := .agg #[.string ⟨(tokR ts 1).s.toArray⟩, .int .i64 (tyN (nx ts 1))]) ?_ rfl ?_
  · simp [results, Tryz.results152, go_sem, b0, b1]
  · obtain ⟨h1, h2, h3⟩ := HBX.out (.string ⟨(tokR ts 1).s.toArray⟩) (.int .i64 (tyN (nx ts 1)))
    refine ⟨h1, ⟨(tokR ts 1).s, [], tyN (nx ts 1), .nil, false⟩, none, rfl, ?_⟩
    have hr := HR2.out
    generalize hW : (w2.setCell ⟨w.heap.size, 0, none⟩ (.string ⟨(tokR ts 1).s.toArray⟩)).setCell ⟨w.heap.size, 1, none⟩ (.int .i64 (tyN (nx ts 1))) = W at *
    clear hW
    by_cases hn : (Pl.hd ts).k = 1
    · obtain ⟨e1, e2, e3, _⟩ := nx_yes (b := b) (nxn hn)
      rw [e1, e2] at hr
      rw [e1, e3]
      unfold Pl.iField
      rw [if_pos hn]
      unfold tyR at hr
      unfold tyN
      cases ht : Pl.typeOf (Pl.hd ts.tail).k with
      | none => rw [ht] at hr; exact h2 _ _ _ hr
      | some ty => rw [ht] at hr; exact ⟨rfl, rfl, h2 _ _ _ hr⟩
    · obtain ⟨e1, e2, e3, _⟩ := nx_no (b := b) (nxf hn)
      rw [e1, e2] at hr
      unfold Pl.iField
      rw [if_neg hn]
      exact h2 _ _ _ hr

set_option maxHeartbeats 400000 in
set_option maxRecDepth 100000 in
theorem oneS : CO valS 157 Pl.iSet := by
  intro rb T ts b w hR
  have HN := hide (nameC rb T ts 0 b _ (hR.alloc (.cells #[.string { data := #[] }, .pointer none] 259)))
  have hz := hR.lt
  clear hR
  go_enter Tryz.func157, Tryz.ntmps157
  go_wp2_with fail
  refine (unhide HN).mono ?_
  rintro e w1 ⟨rfl, hr1, hk1⟩
  have hz1 := hr1.lt
  have HE := hide (needC [12] 1 rfl (by decide) (by decide) w1.heap.size 1 rb T (nx ts 1) 0 (bx ts 1 b) _ (hr1.alloc (.cells #[.int .i64 12] 129)) (kinds_new w1 [12] _ _ rfl) (by omega))
  have HK1 := hide hk1
  clear hr1 hk1 HN
  go_wp2_with fail
  refine (unhide HE).mono ?_
  rintro e w2 ⟨rfl, hr2, hk2⟩
  have HK2 := hide ((HK1.out.alloc (.cells #[.int .i64 12] 129)).trans hk2)
  have HS : Hid (∃ ts2 b2, RC w2 rb T ts2 0 b2 ∧ ((b2 = b ∧ (Pl.hd ts).k = 1 ∧ (Pl.hd ts.tail).k = 12 ∧ ts2 = ts.tail.tail) ∨ (b2 = true ∧ ts2 = [] ∧ Pl.iSet ts = none))) := by
    rw [needs1] at hr2
    by_cases hn : (Pl.hd ts).k = 1
    · obtain ⟨e1, e2, e3, _⟩ := nx_yes (b := b) (nxn hn)
      rw [e1, e2] at hr2
      by_cases h12 : (Pl.hd ts.tail).k = 12
      · rw [if_pos h12] at hr2
        exact ⟨_, b, hr2, .inl ⟨rfl, hn, h12, rfl⟩⟩
      · rw [if_neg h12] at hr2
        exact ⟨[], true, hr2, .inr ⟨rfl, rfl, by unfold Pl.iSet; rw [if_pos hn, if_neg h12]⟩⟩
    · obtain ⟨e1, e2, e3, _⟩ := nx_no (b := b) (nxf hn)
      rw [e1, e2, if_neg (by decide)] at hr2
      exact ⟨[], true, hr2, .inr ⟨rfl, rfl, by unfold Pl.iSet; rw [if_neg hn]⟩⟩
  obtain ⟨ts2, b2, hrc, hcase⟩ := HS.out
  have HCS := hide hcase
  have HV := hide (codeValue rb T ts2 b2 w2 hrc)
  clear hr2 hk2 HE HS hrc hcase
  go_wp2_with fail
  refine (unhide HV).mono ?_
  rintro e w3 ⟨hk3, a, rfl, hp3⟩
  have hk13 := HK2.out.trans hk3
  have hbx := hk13.blk (by omega) (blk_new w (.cells #[.string { data := #[] }, .pointer none] 259))
  have b0 := blk_cell hbx 0
  have b1 := blk_cell hbx 1
  have bf := blk_frozen hbx
  have hzb := lt_of_blk hbx
  simp at b0 b1
  have HBX := hide (box2 (T := T) hz (((Keeps.refl rb w).alloc (.cells #[.string { data := #[] }, .pointer none] 259)).trans hk13) hbx (by decide))
  have HP3 := hide hp3
  clear hp3 hk3 hk13 hbx
  go_wp2_with fail
  refine bodyPost_ret (v := .agg #[.string ⟨(tokR ts 1).s.toArray⟩, .pointer a]) ?_ rfl ?_
  · simp [results, Tryz.results157, go_sem, b0, b1]
  · obtain ⟨h1, h2, h3⟩ := HBX.out (.string ⟨(tokR ts 1).s.toArray⟩) (.pointer a)
    have hp := HP3.out
    generalize hW : (w3.setCell ⟨w.heap.size, 0, none⟩ (.string ⟨(tokR ts 1).s.toArray⟩)).setCell ⟨w.heap.size, 1, none⟩ (.pointer a) = W at *
    clear hW
    rcases HCS.out with ⟨rfl, hn, h12, rfl⟩ | ⟨rfl, rfl, hno⟩
    · obtain ⟨e1, e2, e3, _⟩ := nx_yes (b := b2) (nxn hn)
      rw [e3]
      unfold Pl.iSet
      rw [if_pos hn, if_pos h12]
      cases hv : Pl.pVal 20 ts.tail.tail with
      | none => rw [hv] at hp; exact ⟨h1, ⟨(Pl.hd ts).s, [], 0, .nil, false⟩, a, rfl, h2 _ _ _ hp⟩
      | some y =>
        obtain ⟨x, r⟩ := y
        rw [hv] at hp
        exact ⟨h1, ⟨(Pl.hd ts).s, [], 0, x, false⟩, a, rfl, rfl, h3 _ _ hp.1, h2 _ _ _ hp.2⟩
    · rw [hno]
      refine ⟨h1, ⟨(tokR ts 1).s, [], 0, .nil, false⟩, a, rfl, ?_⟩
      have hnil : RC w3 rb T [] 0 true := by
        cases hv : Pl.pVal 20 [] with
        | none => rw [hv] at hp; exact hp
        | some y =>
          rw [hv] at hp
          have := RC0 hp.2
          have h4 := hp.2
          rw [this] at h4; exact h4
      exact h2 _ _ _ hnil

set_option maxHeartbeats 400000 in
set_option maxRecDepth 100000 in
theorem oneO : CO valO 214 Pl.iKey := by
  intro rb T ts b w hR
  have HN := hide (codeValue rb T ts b _ (hR.alloc (.cells #[.pointer none, .bool false] 328)))
  have hz := hR.lt
  clear hR
  go_enter Tryz.func214, Tryz.ntmps214
  go_wp2_with fail
  refine (unhide HN).mono ?_
  rintro e w1 ⟨hk1, a, rfl, hp1⟩
  have HK1 := hide hk1
  have HS : Hid (∃ ts2 b2, RC w1 rb T ts2 0 b2 ∧ ((b2 = b ∧ ∃ x, Pl.pVal 20 ts = some (x, ts2) ∧ CTree w1 rb x (.pointer a)) ∨ (b2 = true ∧ ts2 = [] ∧ Pl.pVal 20 ts = none))) := by
    cases hv : Pl.pVal 20 ts with
    | none => rw [hv] at hp1; exact ⟨[], true, hp1, .inr ⟨rfl, rfl, rfl⟩⟩
    | some y =>
      obtain ⟨x, r⟩ := y
      rw [hv] at hp1
      exact ⟨r, b, hp1.2, .inl ⟨rfl, x, rfl, hp1.1⟩⟩
  obtain ⟨ts2, b2, hrc, hcase⟩ := HS.out
  have HCS := hide hcase
  have HT := hide (takeC 38 (by decide) rb T ts2 0 b2 w1 hrc)
  clear hp1 hk1 HS hrc hcase HN
  go_wp2_with fail
  refine (unhide HT).mono ?_
  rintro e w2 ⟨rfl, hr2, hk2⟩
  have hk12 := HK1.out.trans hk2
  have hbx := hk12.blk (by omega) (blk_new w (.cells #[.pointer none, .bool false] 328))
  have b0 := blk_cell hbx 0
  have b1 := blk_cell hbx 1
  have bf := blk_frozen hbx
  have hzb := lt_of_blk hbx
  simp at b0 b1
  have HBX := hide (box2 (T := T) hz (((Keeps.refl rb w).alloc (.cells #[.pointer none, .bool false] 328)).trans hk12) hbx (by decide))
  have HR2 := hide hr2
  have HK2 := hide hk2
  clear hr2 hk2 hk12 hbx HT
  go_wp2_with fail
  refine bodyPost_ret (v := .agg #[.pointer a, .bool (hk ts2 38)]) ?_ rfl ?_
  · simp [results, Tryz.results214, go_sem, b0, b1]
  · obtain ⟨h1, h2, h3⟩ := HBX.out (.pointer a) (.bool (hk ts2 38))
    have hr := HR2.out
    generalize hW : (w2.setCell ⟨w.heap.size, 0, none⟩ (.pointer a)).setCell ⟨w.heap.size, 1, none⟩ (.bool (hk ts2 38)) = W at *
    clear hW
    unfold Pl.iKey
    rcases HCS.out with ⟨rfl, x, hx, hct⟩ | ⟨rfl, rfl, hno⟩
    · rw [hx]
      simp only
      have hct2 := h3 _ _ (hct.keeps HK2.out)
      by_cases h38 : (Pl.hd ts2).k = 38
      · have hxx := nxn h38
        rw [(nx_yes (b := b2) hxx).2.2.2] at hr
        rw [hxx, if_pos h38]
        exact ⟨h1, ⟨[], [], 0, x, true⟩, a, rfl, rfl, hct2, h2 _ _ _ hr⟩
      · have hxx := nxf h38
        rw [(nx_no (b := b2) hxx).2.2.2] at hr
        rw [hxx, if_neg h38]
        exact ⟨h1, ⟨[], [], 0, x, false⟩, a, rfl, rfl, hct2, h2 _ _ _ hr⟩
    · rw [hno]
      exact ⟨h1, ⟨[], [], 0, .nil, false⟩, a, rfl, h2 _ _ _ hr⟩
end Go.Proofs.YtojdpjpldokjmaaGreatDoor
/- The code's lists of columns, settings, orders (by gen_lists.py). -/
namespace Go.Proofs.YtojdpjpldokjmaaGreatDoor
open Go.RowKit Go.Deep
set_option linter.unusedSimpArgs false
set_option linter.unusedVariables false

theorem Tryz.infoColumn : (Tryz.prog.info? 97).map (fun i => (i.zero, i.size, i.bytes)) = some (some (.agg #[.string { data := #[] }, .int .i64 0]), 2, 24) := by kernel_rfl
theorem Tryz.infoSetting : (Tryz.prog.info? 259).map (fun i => (i.zero, i.size, i.bytes)) = some (some (.agg #[.string { data := #[] }, .pointer none]), 2, 24) := by kernel_rfl
theorem Tryz.infoOrder : (Tryz.prog.info? 328).map (fun i => (i.zero, i.size, i.bytes)) = some (some (.agg #[.pointer none, .bool false]), 2, 16) := by kernel_rfl

set_option maxHeartbeats 1000000 in
set_option maxRecDepth 100000 in
theorem listC (f : FuncId) (hef : Ent f) (p : Pl.PI) (hs : Pl.ShrI p) (HP : CO valC f p) (rb : Nat) (T ts : List Pl.Tok) (b : Bool) (w : World) (hR : RC w rb T ts 0 b) :
    Calls Tryz.prog 151 #[.pointer (some ⟨rb, 0, none⟩), .func (.func f) #[.pointer (some ⟨rb, 0, none⟩)] #[]] w (PostL 97 2 shC w rb T 0 b (Pl.listed p ts)) := by
  have hef' : ∀ (a : Array Value) (w : World), (callFunc f a).run Tryz.prog w = .ok (.enter f a) w := hef
  obtain ⟨i0, hi, hz0, hz1, hz2⟩ := info_parts Tryz.infoColumn
  have HPt := hide HP
  have HR := hide hR
  have HS := hide hs
  have hz := hR.lt
  have hlen := hR.len
  clear HP hR hs hef
  generalize hsp : Pl.listed p ts = sp
  have HSP := hide hsp
  clear hsp
  go_enter Tryz.func151, Tryz.ntmps151
  go_wp2_with fail
  refine (unhide HPt rb T ts b w HR.out).mono ?_
  rintro e w1 ⟨hk1, it, a, rfl, hp⟩
  have HK1 := hide hk1
  have HP1 := hide hp
  clear hk1 hp
  unfold valC
  have HL : Hid (LoopL w (w1.alloc (.cells #[.string ⟨it.name.toArray⟩, .int .i64 it.type] 97)) rb T b 97 2 shC p sp (ts.length + 1) 1 (.slice (some ⟨w1.heap.size, 0, none⟩) 1 1) ([] ++ shC it (.pointer a))) := by
    have hz1 := HK1.out.size
    refine loopL_next (w1 := w1) HS.out (HK1.out.alloc _) (fun ts d b h => h.alloc _) (fun t v h => h.keeps ((Keeps.refl _ _).alloc _)) (show ItAt w1 rb shC [] [] from rfl) ?_ (own_new w1 _ 1 2 [.string ⟨it.name.toArray⟩, .int .i64 it.type] _ (by omega) (by decide) rfl) HP1.out HSP.out
    simpa using hlen
  clear HP1
  go_wp2_with fail
  go_loopg [5] (ts.length + 1) (fun g x wr => ∃ n cs, Hid (LoopL w wr rb T b 97 2 shC p sp g n x cs))
  case atStart => exact ⟨1, _, HL⟩
  case round =>
    obtain ⟨n, cs, HI⟩ := hrel
    clear HL
    obtain ⟨hkw, hown, hi⟩ := HI.out
    have HK := hide hkw
    have hsz := hkw.size
    obtain ⟨va, vn, vc, rfl⟩ := own_slice hown
    rcases hi with ⟨its, r, rfl, hg, hb, hit, hr, hm⟩ | ⟨hg, hn, hr, hm⟩
    · have HIT := hide hit
      have HM := hide hm
      have HT := hide (takeC 9 (by decide) rb T r 0 b wr hr)
      have hzr := hr.lt
      by_cases h9 : (Pl.hd r).k = 9
      · have hxx := nxn h9
        rw [hxx, (nx_yes (b := b) hxx).2.2.2] at HT
        have HM2 : Hid (Pl.more p (r.tail.length + 1) its r.tail = sp) := by unfold Hid; rw [← HM.out, if_pos h9]
        have hrl := Pl.hd_tail_lt (by decide) h9
        have HO := hide hown
        clear hkw hown HI hit hm hr hxx h9
        go_wp2_with fail
        refine (unhide HT).mono ?_
        rintro e w2 ⟨rfl, hr2, hk2⟩
        have HR2 := hide hr2
        have HK2 := hide (HK.out.trans hk2)
        have HIT2 := hide (HIT.out.mono (fun t v => CTree.keeps hk2))
        have HO2 := hide (own_keeps hk2 hz HO.out)
        clear hr2 hk2 HT
        go_wp2_with fail
        refine (unhide HPt rb T r.tail b w2 HR2.out).mono ?_
        rintro e w3 ⟨hk3, it3, a3, rfl, hp3⟩
        have HK3 := hide (HK2.out.trans hk3)
        have HIT3 := hide (HIT2.out.mono (fun t v => CTree.keeps hk3))
        have hown3 := own_keeps hk3 hz HO2.out
        have HP3 := hide hp3
        have hsz3 := HK3.out.size
        clear hk3 hp3
        unfold valC
        go_wp2_with (at_builtin; refine wpList_append_own _ rfl (.tmp 11) (.tmp 14) 92 rfl w.heap.size 97 i0 _ 2 24 Tryz.underlying92 hi hz0 hz1 hz2 rfl (by decide) _ _ _ rfl (hown3.alloc _) ⟨w3.heap.size, 0, none⟩ 1 1 [.string ⟨it3.name.toArray⟩, .int .i64 it3.type] rfl rfl ?c1 ?c2 ?c3 ?c4 ?c5 ?_)
        case c1 => exact news_at w3 [.string ⟨it3.name.toArray⟩, .int .i64 it3.type] 97
        case c2 => intro u hu; simp at hu; rcases hu with rfl | rfl <;> rfl
        case c3 => unfold maxLen; omega
        case c4 => omega
        case c5 => simp; omega
        intro v' w4 hown4 hg4 hnil
        obtain ⟨hk4, hrt4, hct4⟩ := pushC (T := T) (C := [.string ⟨it3.name.toArray⟩, .int .i64 it3.type]) (by decide) hz HK3.out hown3 hg4
        have HL4 := hide (loopL_next (w1 := w3) (sh := shC) (it := it3) (a := a3) HS.out hk4 hrt4 hct4 HIT3.out (by omega) hown4 HP3.out HM2.out)
        clear hown3 hown4 hg4 hnil hk4 hrt4 hct4
        go_wp2_with fail
        go_roundg (r.tail.length + 1)
        case measure => omega
        case rel => exact ⟨_, _, HL4⟩
      · have hxx := nxf h9
        rw [hxx, (nx_no (b := b) hxx).2.2.2] at HT
        have HE : Hid (sp = some (its, r)) := by unfold Hid; rw [← HM.out, if_neg h9]
        have HO := hide hown
        clear hkw hown HI hit hm hr hxx h9
        go_wp2_with fail
        refine (unhide HT).mono ?_
        rintro e w2 ⟨rfl, hr2, hk2⟩
        have HR2 := hide hr2
        have HK2 := hide (HK.out.trans hk2)
        have HIT2 := hide (HIT.out.mono (fun t v => CTree.keeps hk2))
        have HO2 := hide (own_keeps hk2 hz HO.out)
        clear hr2 hk2 HT
        go_wp2_with fail
        go_ret
        exact ⟨HK2.out, va, vn, vc, rfl, by rw [HE.out]; exact ⟨⟨cs, HO2.out, HIT2.out⟩, HR2.out⟩⟩
    · have HT := hide (takeC 9 (by decide) rb T [] 0 true wr hr)
      rw [show hk ([] : List Pl.Tok) 9 = false from rfl, show tl [] 9 = [] from rfl] at HT
      have HE := hide hm
      clear hkw hown HI hr hm
      go_wp2_with fail
      refine (unhide HT).mono ?_
      rintro e w2 ⟨rfl, hr2, hk2⟩
      have HR2 := hide hr2
      have HK2 := hide (HK.out.trans hk2)
      clear hr2 hk2 HT
      go_wp2_with fail
      go_ret
      exact ⟨HK2.out, va, vn, vc, rfl, by rw [HE.out]; exact HR2.out⟩
set_option maxHeartbeats 1000000 in
set_option maxRecDepth 100000 in
theorem listS (f : FuncId) (hef : Ent f) (p : Pl.PI) (hs : Pl.ShrI p) (HP : CO valS f p) (rb : Nat) (T ts : List Pl.Tok) (b : Bool) (w : World) (hR : RC w rb T ts 0 b) :
    Calls Tryz.prog 156 #[.pointer (some ⟨rb, 0, none⟩), .func (.func f) #[.pointer (some ⟨rb, 0, none⟩)] #[]] w (PostL 259 2 shS w rb T 0 b (Pl.listed p ts)) := by
  have hef' : ∀ (a : Array Value) (w : World), (callFunc f a).run Tryz.prog w = .ok (.enter f a) w := hef
  obtain ⟨i0, hi, hz0, hz1, hz2⟩ := info_parts Tryz.infoSetting
  have HPt := hide HP
  have HR := hide hR
  have HS := hide hs
  have hz := hR.lt
  have hlen := hR.len
  clear HP hR hs hef
  generalize hsp : Pl.listed p ts = sp
  have HSP := hide hsp
  clear hsp
  go_enter Tryz.func156, Tryz.ntmps156
  go_wp2_with fail
  refine (unhide HPt rb T ts b w HR.out).mono ?_
  rintro e w1 ⟨hk1, it, a, rfl, hp⟩
  have HK1 := hide hk1
  have HP1 := hide hp
  clear hk1 hp
  unfold valS
  have HL : Hid (LoopL w (w1.alloc (.cells #[.string ⟨it.name.toArray⟩, .pointer a] 259)) rb T b 259 2 shS p sp (ts.length + 1) 1 (.slice (some ⟨w1.heap.size, 0, none⟩) 1 1) ([] ++ shS it (.pointer a))) := by
    have hz1 := HK1.out.size
    refine loopL_next (w1 := w1) HS.out (HK1.out.alloc _) (fun ts d b h => h.alloc _) (fun t v h => h.keeps ((Keeps.refl _ _).alloc _)) (show ItAt w1 rb shS [] [] from rfl) ?_ (own_new w1 _ 1 2 [.string ⟨it.name.toArray⟩, .pointer a] _ (by omega) (by decide) rfl) HP1.out HSP.out
    simpa using hlen
  clear HP1
  go_wp2_with fail
  go_loopg [5] (ts.length + 1) (fun g x wr => ∃ n cs, Hid (LoopL w wr rb T b 259 2 shS p sp g n x cs))
  case atStart => exact ⟨1, _, HL⟩
  case round =>
    obtain ⟨n, cs, HI⟩ := hrel
    clear HL
    obtain ⟨hkw, hown, hi⟩ := HI.out
    have HK := hide hkw
    have hsz := hkw.size
    obtain ⟨va, vn, vc, rfl⟩ := own_slice hown
    rcases hi with ⟨its, r, rfl, hg, hb, hit, hr, hm⟩ | ⟨hg, hn, hr, hm⟩
    · have HIT := hide hit
      have HM := hide hm
      have HT := hide (takeC 9 (by decide) rb T r 0 b wr hr)
      have hzr := hr.lt
      by_cases h9 : (Pl.hd r).k = 9
      · have hxx := nxn h9
        rw [hxx, (nx_yes (b := b) hxx).2.2.2] at HT
        have HM2 : Hid (Pl.more p (r.tail.length + 1) its r.tail = sp) := by unfold Hid; rw [← HM.out, if_pos h9]
        have hrl := Pl.hd_tail_lt (by decide) h9
        have HO := hide hown
        clear hkw hown HI hit hm hr hxx h9
        go_wp2_with fail
        refine (unhide HT).mono ?_
        rintro e w2 ⟨rfl, hr2, hk2⟩
        have HR2 := hide hr2
        have HK2 := hide (HK.out.trans hk2)
        have HIT2 := hide (HIT.out.mono (fun t v => CTree.keeps hk2))
        have HO2 := hide (own_keeps hk2 hz HO.out)
        clear hr2 hk2 HT
        go_wp2_with fail
        refine (unhide HPt rb T r.tail b w2 HR2.out).mono ?_
        rintro e w3 ⟨hk3, it3, a3, rfl, hp3⟩
        have HK3 := hide (HK2.out.trans hk3)
        have HIT3 := hide (HIT2.out.mono (fun t v => CTree.keeps hk3))
        have hown3 := own_keeps hk3 hz HO2.out
        have HP3 := hide hp3
        have hsz3 := HK3.out.size
        clear hk3 hp3
        unfold valS
        go_wp2_with (at_builtin; refine wpList_append_own _ rfl (.tmp 11) (.tmp 14) 211 rfl w.heap.size 259 i0 _ 2 24 Tryz.underlying211 hi hz0 hz1 hz2 rfl (by decide) _ _ _ rfl (hown3.alloc _) ⟨w3.heap.size, 0, none⟩ 1 1 [.string ⟨it3.name.toArray⟩, .pointer a3] rfl rfl ?c1 ?c2 ?c3 ?c4 ?c5 ?_)
        case c1 => exact news_at w3 [.string ⟨it3.name.toArray⟩, .pointer a3] 259
        case c2 => intro u hu; simp at hu; rcases hu with rfl | rfl <;> rfl
        case c3 => unfold maxLen; omega
        case c4 => omega
        case c5 => simp; omega
        intro v' w4 hown4 hg4 hnil
        obtain ⟨hk4, hrt4, hct4⟩ := pushC (T := T) (C := [.string ⟨it3.name.toArray⟩, .pointer a3]) (by decide) hz HK3.out hown3 hg4
        have HL4 := hide (loopL_next (w1 := w3) (sh := shS) (it := it3) (a := a3) HS.out hk4 hrt4 hct4 HIT3.out (by omega) hown4 HP3.out HM2.out)
        clear hown3 hown4 hg4 hnil hk4 hrt4 hct4
        go_wp2_with fail
        go_roundg (r.tail.length + 1)
        case measure => omega
        case rel => exact ⟨_, _, HL4⟩
      · have hxx := nxf h9
        rw [hxx, (nx_no (b := b) hxx).2.2.2] at HT
        have HE : Hid (sp = some (its, r)) := by unfold Hid; rw [← HM.out, if_neg h9]
        have HO := hide hown
        clear hkw hown HI hit hm hr hxx h9
        go_wp2_with fail
        refine (unhide HT).mono ?_
        rintro e w2 ⟨rfl, hr2, hk2⟩
        have HR2 := hide hr2
        have HK2 := hide (HK.out.trans hk2)
        have HIT2 := hide (HIT.out.mono (fun t v => CTree.keeps hk2))
        have HO2 := hide (own_keeps hk2 hz HO.out)
        clear hr2 hk2 HT
        go_wp2_with fail
        go_ret
        exact ⟨HK2.out, va, vn, vc, rfl, by rw [HE.out]; exact ⟨⟨cs, HO2.out, HIT2.out⟩, HR2.out⟩⟩
    · have HT := hide (takeC 9 (by decide) rb T [] 0 true wr hr)
      rw [show hk ([] : List Pl.Tok) 9 = false from rfl, show tl [] 9 = [] from rfl] at HT
      have HE := hide hm
      clear hkw hown HI hr hm
      go_wp2_with fail
      refine (unhide HT).mono ?_
      rintro e w2 ⟨rfl, hr2, hk2⟩
      have HR2 := hide hr2
      have HK2 := hide (HK.out.trans hk2)
      clear hr2 hk2 HT
      go_wp2_with fail
      go_ret
      exact ⟨HK2.out, va, vn, vc, rfl, by rw [HE.out]; exact HR2.out⟩
set_option maxHeartbeats 1000000 in
set_option maxRecDepth 100000 in
theorem listO (f : FuncId) (hef : Ent f) (p : Pl.PI) (hs : Pl.ShrI p) (HP : CO valO f p) (rb : Nat) (T ts : List Pl.Tok) (b : Bool) (w : World) (hR : RC w rb T ts 0 b) :
    Calls Tryz.prog 213 #[.pointer (some ⟨rb, 0, none⟩), .func (.func f) #[.pointer (some ⟨rb, 0, none⟩)] #[]] w (PostL 328 2 shO w rb T 0 b (Pl.listed p ts)) := by
  have hef' : ∀ (a : Array Value) (w : World), (callFunc f a).run Tryz.prog w = .ok (.enter f a) w := hef
  obtain ⟨i0, hi, hz0, hz1, hz2⟩ := info_parts Tryz.infoOrder
  have HPt := hide HP
  have HR := hide hR
  have HS := hide hs
  have hz := hR.lt
  have hlen := hR.len
  clear HP hR hs hef
  generalize hsp : Pl.listed p ts = sp
  have HSP := hide hsp
  clear hsp
  go_enter Tryz.func213, Tryz.ntmps213
  go_wp2_with fail
  refine (unhide HPt rb T ts b w HR.out).mono ?_
  rintro e w1 ⟨hk1, it, a, rfl, hp⟩
  have HK1 := hide hk1
  have HP1 := hide hp
  clear hk1 hp
  unfold valO
  have HL : Hid (LoopL w (w1.alloc (.cells #[.pointer a, .bool it.mark] 328)) rb T b 328 2 shO p sp (ts.length + 1) 1 (.slice (some ⟨w1.heap.size, 0, none⟩) 1 1) ([] ++ shO it (.pointer a))) := by
    have hz1 := HK1.out.size
    refine loopL_next (w1 := w1) HS.out (HK1.out.alloc _) (fun ts d b h => h.alloc _) (fun t v h => h.keeps ((Keeps.refl _ _).alloc _)) (show ItAt w1 rb shO [] [] from rfl) ?_ (own_new w1 _ 1 2 [.pointer a, .bool it.mark] _ (by omega) (by decide) rfl) HP1.out HSP.out
    simpa using hlen
  clear HP1
  go_wp2_with fail
  go_loopg [5] (ts.length + 1) (fun g x wr => ∃ n cs, Hid (LoopL w wr rb T b 328 2 shO p sp g n x cs))
  case atStart => exact ⟨1, _, HL⟩
  case round =>
    obtain ⟨n, cs, HI⟩ := hrel
    clear HL
    obtain ⟨hkw, hown, hi⟩ := HI.out
    have HK := hide hkw
    have hsz := hkw.size
    obtain ⟨va, vn, vc, rfl⟩ := own_slice hown
    rcases hi with ⟨its, r, rfl, hg, hb, hit, hr, hm⟩ | ⟨hg, hn, hr, hm⟩
    · have HIT := hide hit
      have HM := hide hm
      have HT := hide (takeC 9 (by decide) rb T r 0 b wr hr)
      have hzr := hr.lt
      by_cases h9 : (Pl.hd r).k = 9
      · have hxx := nxn h9
        rw [hxx, (nx_yes (b := b) hxx).2.2.2] at HT
        have HM2 : Hid (Pl.more p (r.tail.length + 1) its r.tail = sp) := by unfold Hid; rw [← HM.out, if_pos h9]
        have hrl := Pl.hd_tail_lt (by decide) h9
        have HO := hide hown
        clear hkw hown HI hit hm hr hxx h9
        go_wp2_with fail
        refine (unhide HT).mono ?_
        rintro e w2 ⟨rfl, hr2, hk2⟩
        have HR2 := hide hr2
        have HK2 := hide (HK.out.trans hk2)
        have HIT2 := hide (HIT.out.mono (fun t v => CTree.keeps hk2))
        have HO2 := hide (own_keeps hk2 hz HO.out)
        clear hr2 hk2 HT
        go_wp2_with fail
        refine (unhide HPt rb T r.tail b w2 HR2.out).mono ?_
        rintro e w3 ⟨hk3, it3, a3, rfl, hp3⟩
        have HK3 := hide (HK2.out.trans hk3)
        have HIT3 := hide (HIT2.out.mono (fun t v => CTree.keeps hk3))
        have hown3 := own_keeps hk3 hz HO2.out
        have HP3 := hide hp3
        have hsz3 := HK3.out.size
        clear hk3 hp3
        unfold valO
        go_wp2_with (at_builtin; refine wpList_append_own _ rfl (.tmp 11) (.tmp 14) 227 rfl w.heap.size 328 i0 _ 2 16 Tryz.underlying227 hi hz0 hz1 hz2 rfl (by decide) _ _ _ rfl (hown3.alloc _) ⟨w3.heap.size, 0, none⟩ 1 1 [.pointer a3, .bool it3.mark] rfl rfl ?c1 ?c2 ?c3 ?c4 ?c5 ?_)
        case c1 => exact news_at w3 [.pointer a3, .bool it3.mark] 328
        case c2 => intro u hu; simp at hu; rcases hu with rfl | rfl <;> rfl
        case c3 => unfold maxLen; omega
        case c4 => omega
        case c5 => simp; omega
        intro v' w4 hown4 hg4 hnil
        obtain ⟨hk4, hrt4, hct4⟩ := pushC (T := T) (C := [.pointer a3, .bool it3.mark]) (by decide) hz HK3.out hown3 hg4
        have HL4 := hide (loopL_next (w1 := w3) (sh := shO) (it := it3) (a := a3) HS.out hk4 hrt4 hct4 HIT3.out (by omega) hown4 HP3.out HM2.out)
        clear hown3 hown4 hg4 hnil hk4 hrt4 hct4
        go_wp2_with fail
        go_roundg (r.tail.length + 1)
        case measure => omega
        case rel => exact ⟨_, _, HL4⟩
      · have hxx := nxf h9
        rw [hxx, (nx_no (b := b) hxx).2.2.2] at HT
        have HE : Hid (sp = some (its, r)) := by unfold Hid; rw [← HM.out, if_neg h9]
        have HO := hide hown
        clear hkw hown HI hit hm hr hxx h9
        go_wp2_with fail
        refine (unhide HT).mono ?_
        rintro e w2 ⟨rfl, hr2, hk2⟩
        have HR2 := hide hr2
        have HK2 := hide (HK.out.trans hk2)
        have HIT2 := hide (HIT.out.mono (fun t v => CTree.keeps hk2))
        have HO2 := hide (own_keeps hk2 hz HO.out)
        clear hr2 hk2 HT
        go_wp2_with fail
        go_ret
        exact ⟨HK2.out, va, vn, vc, rfl, by rw [HE.out]; exact ⟨⟨cs, HO2.out, HIT2.out⟩, HR2.out⟩⟩
    · have HT := hide (takeC 9 (by decide) rb T [] 0 true wr hr)
      rw [show hk ([] : List Pl.Tok) 9 = false from rfl, show tl [] 9 = [] from rfl] at HT
      have HE := hide hm
      clear hkw hown HI hr hm
      go_wp2_with fail
      refine (unhide HT).mono ?_
      rintro e w2 ⟨rfl, hr2, hk2⟩
      have HR2 := hide hr2
      have HK2 := hide (HK.out.trans hk2)
      clear hr2 hk2 HT
      go_wp2_with fail
      go_ret
      exact ⟨HK2.out, va, vn, vc, rfl, by rw [HE.out]; exact HR2.out⟩
end Go.Proofs.YtojdpjpldokjmaaGreatDoor
/- The code's reader of statements: where, orders, limit. -/
namespace Go.Proofs.YtojdpjpldokjmaaGreatDoor
open Go.RowKit Go.Deep
set_option linter.unusedSimpArgs false
set_option linter.unusedVariables false

set_option maxHeartbeats 400000 in
set_option maxRecDepth 100000 in
theorem whereC : CQ 155 0 Pl.pWhere := by
  intro rb T ts b w hR
  have HT := hide (takeC 27 (by decide) rb T ts 0 b w hR)
  clear hR
  by_cases h27 : (Pl.hd ts).k = 27
  · have hx := nxn h27
    rw [hx, (nx_yes (b := b) hx).2.2.2] at HT
    have HV : Hid (Pl.pWhere ts = Pl.pVal 20 ts.tail) := by unfold Hid Pl.pWhere; rw [if_pos h27]
    go_enter Tryz.func155, Tryz.ntmps155
    go_wp2_with fail
    refine (unhide HT).mono ?_
    rintro e w1 ⟨rfl, hr1, hk1⟩
    have HC := hide (codeValue rb T ts.tail b w1 hr1)
    have HK1 := hide hk1
    clear hr1 hk1 HT
    go_wp2_with fail
    refine (unhide HC).mono ?_
    rintro e w2 ⟨hk2, a, rfl, hp⟩
    go_wp2_with fail
    go_ret
    exact ⟨HK1.out.trans hk2, a, rfl, by rw [HV.out]; exact hp⟩
  · have hx := nxf h27
    rw [hx, (nx_no (b := b) hx).2.2.2] at HT
    have HV : Hid (Pl.pWhere ts = some (.nil, ts)) := by unfold Hid Pl.pWhere; rw [if_neg h27]
    go_enter Tryz.func155, Tryz.ntmps155
    go_wp2_with fail
    refine (unhide HT).mono ?_
    rintro e w1 ⟨rfl, hr1, hk1⟩
    go_wp2_with fail
    go_ret
    exact PostR.some_ HV.out hk1 rfl hr1

/-- What a list leaves where nothing can be right any more. -/
theorem PostL.wrong {e : TypeId} {size : Nat} {sh : Pl.It → Value → List Value} {w : World} {rb : Nat} {T : List Pl.Tok} {sp : Option (List Pl.It × List Pl.Tok)} {en : Ending} {w' : World} (h : PostL e size sh w rb T 0 true sp en w') : PostL e size sh w rb T 0 true none en w' := by
  obtain ⟨hk, a, n, c, rfl, h⟩ := h
  refine ⟨hk, a, n, c, rfl, ?_⟩
  cases sp with
  | none => exact h
  | some y =>
    obtain ⟨its, r⟩ := y
    have h2 := h.2
    rw [RC0 h2] at h2
    exact h2
theorem PostL.base {e : TypeId} {size : Nat} {sh : Pl.It → Value → List Value} {w w1 : World} {rb : Nat} {T : List Pl.Tok} {b : Bool} {sp : Option (List Pl.It × List Pl.Tok)} {en : Ending} {w' : World} (hk1 : Keeps rb w w1) (h : PostL e size sh w1 rb T 0 b sp en w') : PostL e size sh w rb T 0 b sp en w' := by
  obtain ⟨hk, a, n, c, rfl, h⟩ := h
  refine ⟨hk1.trans hk, a, n, c, rfl, ?_⟩
  cases sp with
  | none => exact h
  | some y =>
    obtain ⟨its, r⟩ := y
    obtain ⟨⟨cs, ⟨h1, h2⟩, h3⟩, h4⟩ := h
    refine ⟨⟨cs, ⟨h1, ?_⟩, h3⟩, h4⟩
    rcases h2 with h2 | ⟨g, cap, cur, hv, hg, r⟩
    · exact .inl h2
    · exact .inr ⟨g, cap, cur, hv, Nat.le_trans hk1.size hg, r⟩

set_option maxHeartbeats 400000 in
set_option maxRecDepth 100000 in
theorem ordersC (rb : Nat) (T ts : List Pl.Tok) (b : Bool) (w : World) (hR : RC w rb T ts 0 b) :
    Calls Tryz.prog 159 #[.pointer (some ⟨rb, 0, none⟩)] w (PostL 328 2 shO w rb T 0 b (Pl.pKeys ts)) := by
  have HT := hide (takeC 36 (by decide) rb T ts 0 b w hR)
  clear hR
  by_cases h36 : (Pl.hd ts).k = 36
  · have hx := nxn h36
    rw [hx, (nx_yes (b := b) hx).2.2.2] at HT
    go_enter Tryz.func159, Tryz.ntmps159
    go_wp2_with fail
    refine (unhide HT).mono ?_
    rintro e w1 ⟨rfl, hr1, hk1⟩
    have hz1 := hr1.lt
    have HE := hide (needC [37] 1 rfl (by decide) (by decide) w1.heap.size 1 rb T ts.tail 0 b _ (hr1.alloc (.cells #[.int .i64 37] 129)) (kinds_new w1 [37] _ _ rfl) (by omega))
    rw [needs1] at HE
    have HK1 := hide hk1
    clear hr1 hk1 HT
    go_wp2_with fail
    refine (unhide HE).mono ?_
    rintro e w2 ⟨rfl, hr2, hk2⟩
    have HK2 := hide ((HK1.out.alloc (.cells #[.int .i64 37] 129)).trans hk2)
    by_cases h37 : (Pl.hd ts.tail).k = 37
    · rw [if_pos h37] at hr2
      have HV : Hid (Pl.pKeys ts = Pl.listed Pl.iKey ts.tail.tail) := by unfold Hid Pl.pKeys; rw [if_pos h36, if_pos h37]
      have HL := hide (listO 214 (fun a w => by go_simp) Pl.iKey Pl.iKey_shr oneO rb T ts.tail.tail b w2 hr2)
      clear hr2 hk2 HE
      go_wp2_with fail
      refine (unhide HL).mono ?_
      intro e w3 h3
      have h4 := h3.base HK2.out
      obtain ⟨hk4, a, n, c, rfl, hp⟩ := h4
      have HP := hide hp
      clear h3 hp
      go_wp2_with fail
      go_ret
      exact ⟨hk4, a, n, c, rfl, by rw [HV.out]; exact HP.out⟩
    · rw [if_neg h37] at hr2
      have HV : Hid (Pl.pKeys ts = none) := by unfold Hid Pl.pKeys; rw [if_pos h36, if_neg h37]
      have HL := hide (listO 214 (fun a w => by go_simp) Pl.iKey Pl.iKey_shr oneO rb T [] true w2 hr2)
      clear hr2 hk2 HE
      go_wp2_with fail
      refine (unhide HL).mono ?_
      intro e w3 h3
      have h4 := h3.wrong.base HK2.out
      obtain ⟨hk4, a, n, c, rfl, hp⟩ := h4
      have HP := hide hp
      clear h3 hp
      go_wp2_with fail
      go_ret
      exact ⟨hk4, a, n, c, rfl, by rw [HV.out]; exact HP.out⟩
  · have hx := nxf h36
    rw [hx, (nx_no (b := b) hx).2.2.2] at HT
    have HV : Hid (Pl.pKeys ts = some ([], ts)) := by unfold Hid Pl.pKeys; rw [if_neg h36]
    go_enter Tryz.func159, Tryz.ntmps159
    go_wp2_with fail
    refine (unhide HT).mono ?_
    rintro e w1 ⟨rfl, hr1, hk1⟩
    go_wp2_with fail
    go_ret
    exact ⟨hk1, none, 0, 0, rfl, by rw [HV.out]; exact ⟨⟨[], World.ownsRow_nil _ _ _ _, rfl⟩, hr1⟩⟩

/-- A limit and an offset: what a reading of them leaves. -/
def PostLim (w : World) (rb : Nat) (T : List Pl.Tok) (b : Bool) (ts : List Pl.Tok) (e : Ending) (w' : World) : Prop :=
  Keeps rb w w' ∧ ∃ l o : Int, e = .returned (.tuple #[.int .i64 l, .int .i64 o]) ∧ match Pl.pLimit ts with
    | some (z, r) => l = (if z.1 = -1 ∧ (Pl.hd ts).k ≠ 39 then 9223372036854775807 else z.1) ∧ o = z.2 ∧ RC w' rb T r 0 b
    | none => RC w' rb T [] 0 true
set_option maxHeartbeats 400000 in
set_option maxRecDepth 100000 in
theorem limitC (rb : Nat) (T ts : List Pl.Tok) (b : Bool) (w : World) (hR : RC w rb T ts 0 b) :
    Calls Tryz.prog 160 #[.pointer (some ⟨rb, 0, none⟩)] w (PostLim w rb T b ts) := by
  have HT := hide (takeC 39 (by decide) rb T ts 0 b w hR)
  clear hR
  by_cases h39 : (Pl.hd ts).k = 39
  · have hx := nxn h39
    rw [hx, (nx_yes (b := b) hx).2.2.2] at HT
    go_enter Tryz.func160, Tryz.ntmps160
    go_wp2_with fail
    refine (unhide HT).mono ?_
    rintro e w1 ⟨rfl, hr1, hk1⟩
    have HN := hide (numberC rb T ts.tail 0 b w1 hr1)
    have HK1 := hide hk1
    clear hr1 hk1 HT
    go_wp2_with fail
    refine (unhide HN).mono ?_
    rintro e w2 ⟨rfl, hr2, hk2⟩
    have HK2 := hide (HK1.out.trans hk2)
    have HTO := hide (takeC 40 (by decide) rb T (nx ts.tail 2) 0 (bx ts.tail 2 b) w2 hr2)
    clear hr2 hk2 HN
    by_cases h2 : (Pl.hd ts.tail).k = 2
    · have hy := nxn h2
      obtain ⟨e1, e2, e3, _⟩ := nx_yes (b := b) hy
      rw [e1, e2] at HTO
      rw [e3]
      by_cases h40 : (Pl.hd ts.tail.tail).k = 40
      · have hq := nxn h40
        rw [hq, (nx_yes (b := b) hq).2.2.2] at HTO
        go_wp2_with fail
        refine (unhide HTO).mono ?_
        rintro e w3 ⟨rfl, hr3, hk3⟩
        have HK3 := hide (HK2.out.trans hk3)
        have HN2 := hide (numberC rb T ts.tail.tail.tail 0 b w3 hr3)
        clear hr3 hk3 HTO
        go_wp2_with fail
        refine (unhide HN2).mono ?_
        rintro e w4 ⟨rfl, hr4, hk4⟩
        have HR4 := hide hr4
        have HK4 := hide (HK3.out.trans hk4)
        clear hr4 hk4 HN2
        go_wp2_with fail
        refine bodyPost_ret (v := .tuple #[.int .i64 (Pl.hd ts.tail).n, .int .i64 (tokR ts.tail.tail.tail 2).n]) (by simp [results, Tryz.results160, go_sem]) rfl ⟨HK4.out, _, _, rfl, ?_⟩
        have hr := HR4.out
        unfold Pl.pLimit
        rw [if_pos h39, if_pos h2, if_pos h40]
        by_cases h22 : (Pl.hd ts.tail.tail.tail).k = 2
        · obtain ⟨e1, e2, e3, _⟩ := nx_yes (b := b) (nxn h22)
          rw [e1, e2] at hr
          rw [if_pos h22]
          exact ⟨by rw [if_neg (fun h => h.2 h39)], by rw [e3], hr⟩
        · obtain ⟨e1, e2, e3, _⟩ := nx_no (b := b) (nxf h22)
          rw [e1, e2] at hr
          rw [if_neg h22]
          exact hr
      · have hq := nxf h40
        rw [hq, (nx_no (b := b) hq).2.2.2] at HTO
        go_wp2_with fail
        refine (unhide HTO).mono ?_
        rintro e w3 ⟨rfl, hr3, hk3⟩
        have HR3 := hide hr3
        have HK3 := hide (HK2.out.trans hk3)
        clear hr3 hk3 HTO
        go_wp2_with fail
        refine bodyPost_ret (v := .tuple #[.int .i64 (Pl.hd ts.tail).n, .int .i64 0]) (by simp [results, Tryz.results160, go_sem]) rfl ⟨HK3.out, _, _, rfl, ?_⟩
        unfold Pl.pLimit
        rw [if_pos h39, if_pos h2, if_neg h40]
        exact ⟨by rw [if_neg (fun h => h.2 h39)], rfl, HR3.out⟩
    · have hy := nxf h2
      obtain ⟨e1, e2, e3, _⟩ := nx_no (b := b) hy
      rw [e1, e2, show hk ([] : List Pl.Tok) 40 = false from rfl, show tl [] 40 = [] from rfl] at HTO
      go_wp2_with fail
      refine (unhide HTO).mono ?_
      rintro e w3 ⟨rfl, hr3, hk3⟩
      have HR3 := hide hr3
      have HK3 := hide (HK2.out.trans hk3)
      clear hr3 hk3 HTO
      go_wp2_with fail
      refine bodyPost_ret (v := .tuple #[.int .i64 (tokR ts.tail 2).n, .int .i64 0]) (by simp [results, Tryz.results160, go_sem, e3]) rfl ⟨HK3.out, _, _, rfl, ?_⟩
      unfold Pl.pLimit
      rw [if_pos h39, if_neg h2]
      exact HR3.out
  · have hx := nxf h39
    rw [hx, (nx_no (b := b) hx).2.2.2] at HT
    go_enter Tryz.func160, Tryz.ntmps160
    go_wp2_with fail
    refine (unhide HT).mono ?_
    rintro e w1 ⟨rfl, hr1, hk1⟩
    have HR1 := hide hr1
    have HK1 := hide hk1
    clear hr1 hk1 HT
    go_wp2_with fail
    refine bodyPost_ret (v := .tuple #[.int .i64 9223372036854775807, .int .i64 0]) (by simp [results, Tryz.results160, go_sem]) rfl ⟨HK1.out, _, _, rfl, ?_⟩
    unfold Pl.pLimit
    rw [if_neg h39]
    exact ⟨by rw [if_pos ⟨rfl, h39⟩], rfl, HR1.out⟩
end Go.Proofs.YtojdpjpldokjmaaGreatDoor
