/- The keep Parted: the walk. -/
import Derived.Test.YtojdpjpldokjmaaGreatDoorG11
import Derived.Test.YtojdpjpldokjmaaGreatDoorG33
import Derived.Test.YtojdpjpldokjmaaGreatDoorG34
namespace Go.Proofs.YtojdpjpldokjmaaGreatDoor
open Go.RowKit Go.Deep
set_option linter.unusedSimpArgs false
set_option linter.unusedVariables false

theorem cat2 (a b : List UInt8) : ({ data := a.toArray } : ByteArray) ++ { data := b.toArray } = ⟨(a ++ b).toArray⟩ := by rw [ByteArray.mk_append_mk]
theorem s_yes (x : List UInt8) : ({ data := #[83, 69, 76, 69, 67, 84, 32, 42, 32, 70, 82, 79, 77, 32, 116, 32, 87, 72, 69, 82, 69, 32] } : ByteArray) ++ { data := x.toArray } = ⟨(Pl.xSel ++ x).toArray⟩ := cat2 Pl.xSel x
theorem s_no (x : List UInt8) : ({ data := #[83, 69, 76, 69, 67, 84, 32, 42, 32, 70, 82, 79, 77, 32, 116, 32, 87, 72, 69, 82, 69, 32, 78, 79, 84, 32] } : ByteArray) ++ { data := x.toArray } = ⟨(Pl.xSel ++ ([78, 79, 84, 32] ++ x)).toArray⟩ := by
  rw [← List.append_assoc]
  exact cat2 (Pl.xSel ++ [78, 79, 84, 32]) x
theorem s_unk (x : List UInt8) : (({ data := #[83, 69, 76, 69, 67, 84, 32, 42, 32, 70, 82, 79, 77, 32, 116, 32, 87, 72, 69, 82, 69, 32] } : ByteArray) ++ { data := x.toArray }) ++ { data := #[32, 73, 83, 32, 78, 85, 76, 76] } = ⟨(Pl.xSel ++ (x ++ [32, 73, 83, 32, 78, 85, 76, 76])).toArray⟩ := by
  rw [← List.append_assoc]
  exact cat3 Pl.xSel x [32, 73, 83, 32, 78, 85, 76, 76]
theorem s_told (x : List UInt8) : (({ data := #[83, 69, 76, 69, 67, 84, 32] } : ByteArray) ++ { data := x.toArray }) ++ { data := #[44, 32, 116, 46, 97, 44, 32, 98, 44, 32, 116, 46, 99, 32, 70, 82, 79, 77, 32, 116] } = ⟨(Pl.xTold x).toArray⟩ := by
  unfold Pl.xTold
  rw [← List.append_assoc]
  exact cat3 [83, 69, 76, 69, 67, 84, 32] x [44, 32, 116, 46, 97, 44, 32, 98, 44, 32, 116, 46, 99, 32, 70, 82, 79, 77, 32, 116]
theorem s_del (x : List UInt8) : ({ data := #[68, 69, 76, 69, 84, 69, 32, 70, 82, 79, 77, 32, 116, 32, 87, 72, 69, 82, 69, 32] } : ByteArray) ++ { data := x.toArray } = ⟨(Pl.xDel ++ x).toArray⟩ := cat2 Pl.xDel x
theorem ok_sel (HS : StableM 19) {rt ru : List (List Pl.V)} (h1 : rt.length ≤ 19) (h2 : ru.length ≤ 19) {t : List UInt8} (h : ∃ s, Pl.pParse t = some s ∧ s.kind = 115 ∧ s.distinct = false ∧ s.sources.length = 1) : ExecOk (Pl.bTab rt ru) t := by
  obtain ⟨s, hp, hk, hd, hl⟩ := h
  refine execOk_sel1 HS hp (by rw [hk]; decide) hd hl (fun x hx => ?_)
  simp [Pl.bTab] at hx
  rcases hx with rfl | rfl
  · exact h1
  · exact h2
/-- What Parted's loop keeps: of each part what is still to come. -/
structure PartI (t : Pl.T) (rt : List (List Pl.V)) (w9 wr : World) (i : Nat) (vy vn vu : Value) (n : Nat) : Prop where
  bel : Below w9.heap.size w9 wr
  yes : MatO wr ((rt.drop i).filter (Pl.isYes t)) vy
  no : MatO wr ((rt.drop i).filter (Pl.isNo t)) vn
  nil : MatO wr ((rt.drop i).filter (Pl.isNil t)) vu
  cnt : n = ((rt.take i).filter (Pl.isYes t)).length

theorem MatO.at_ {w : World} {rows : List (List Pl.V)} {a av : Option Addr} {c : Nat} (h : MatO w rows (.slice a rows.length c)) (hav : rows.length = 0 ∨ av = a) : MatO w rows (.slice av rows.length c) := by
  rcases hav with h0 | rfl
  · obtain ⟨_, _, e, hc, _⟩ := h
    cases e
    exact ⟨av, c, rfl, hc, fun hn => absurd (List.length_eq_zero_iff.1 h0) hn⟩
  · exact h
theorem PartI.stepNil {t : Pl.T} {rt : List (List Pl.V)} {w9 wr : World} {i n : Nat} {vy vn vu : Value} {r : List Pl.V} (h : PartI t rt w9 wr i vy vn vu n) (hs : rt.drop i = r :: rt.drop (i + 1)) (hk : rt.take (i + 1) = rt.take i ++ [r]) (a : Pl.isNil t r = true) (b : Pl.isYes t r = false) (c : Pl.isNo t r = false) :
    ∃ g o cc m, vu = .slice (some ⟨g, o, none⟩) (m + 1) cc ∧ m + 1 ≤ cc ∧ m ≤ rt.length ∧ MatO wr [r] (.slice (some ⟨g, o, none⟩) 1 cc) ∧ ∀ W av, Below wr.heap.size wr W → (m = 0 ∨ av = some ⟨g, o + 1, none⟩) → PartI t rt w9 W (i + 1) vy vn (.slice av m (cc - 1)) n := by
  have h1 := h.nil
  have h2 := h.yes
  have h3 := h.no
  rw [hs, List.filter_cons, if_pos a] at h1
  rw [hs, List.filter_cons, if_neg (by simp [b])] at h2
  rw [hs, List.filter_cons, if_neg (by simp [c])] at h3
  obtain ⟨g, o, cc, he, hc, _, hf, hr⟩ := h1.first
  refine ⟨g, o, cc, _, he, hc, Nat.le_trans (List.length_filter_le _ _) (by simp), hf, fun W av hW hav => ⟨h.bel.trans (hW.mono h.bel.size), h2.below hW, h3.below hW, (hr.below hW).at_ hav, ?_⟩⟩
  rw [hk, List.filter_append, h.cnt]
  simp [b]
theorem PartI.stepYes {t : Pl.T} {rt : List (List Pl.V)} {w9 wr : World} {i n : Nat} {vy vn vu : Value} {r : List Pl.V} (h : PartI t rt w9 wr i vy vn vu n) (hs : rt.drop i = r :: rt.drop (i + 1)) (hk : rt.take (i + 1) = rt.take i ++ [r]) (a : Pl.isNil t r = false) (b : Pl.isYes t r = true) (c : Pl.isNo t r = false) :
    ∃ g o cc m, vy = .slice (some ⟨g, o, none⟩) (m + 1) cc ∧ m + 1 ≤ cc ∧ m ≤ rt.length ∧ MatO wr [r] (.slice (some ⟨g, o, none⟩) 1 cc) ∧ ∀ W av, Below wr.heap.size wr W → (m = 0 ∨ av = some ⟨g, o + 1, none⟩) → PartI t rt w9 W (i + 1) (.slice av m (cc - 1)) vn vu (n + 1) := by
  have h1 := h.nil
  have h2 := h.yes
  have h3 := h.no
  rw [hs, List.filter_cons, if_neg (by simp [a])] at h1
  rw [hs, List.filter_cons, if_pos b] at h2
  rw [hs, List.filter_cons, if_neg (by simp [c])] at h3
  obtain ⟨g, o, cc, he, hc, _, hf, hr⟩ := h2.first
  refine ⟨g, o, cc, _, he, hc, Nat.le_trans (List.length_filter_le _ _) (by simp), hf, fun W av hW hav => ⟨h.bel.trans (hW.mono h.bel.size), (hr.below hW).at_ hav, h3.below hW, h1.below hW, ?_⟩⟩
  rw [hk, List.filter_append, h.cnt]
  simp [b]
theorem PartI.stepNo {t : Pl.T} {rt : List (List Pl.V)} {w9 wr : World} {i n : Nat} {vy vn vu : Value} {r : List Pl.V} (h : PartI t rt w9 wr i vy vn vu n) (hs : rt.drop i = r :: rt.drop (i + 1)) (hk : rt.take (i + 1) = rt.take i ++ [r]) (a : Pl.isNil t r = false) (b : Pl.isYes t r = false) (c : Pl.isNo t r = true) :
    ∃ g o cc m, vn = .slice (some ⟨g, o, none⟩) (m + 1) cc ∧ m + 1 ≤ cc ∧ m ≤ rt.length ∧ MatO wr [r] (.slice (some ⟨g, o, none⟩) 1 cc) ∧ ∀ W av, Below wr.heap.size wr W → (m = 0 ∨ av = some ⟨g, o + 1, none⟩) → PartI t rt w9 W (i + 1) vy (.slice av m (cc - 1)) vu n := by
  have h1 := h.nil
  have h2 := h.yes
  have h3 := h.no
  rw [hs, List.filter_cons, if_neg (by simp [a])] at h1
  rw [hs, List.filter_cons, if_neg (by simp [b])] at h2
  rw [hs, List.filter_cons, if_pos c] at h3
  obtain ⟨g, o, cc, he, hc, _, hf, hr⟩ := h3.first
  refine ⟨g, o, cc, _, he, hc, Nat.le_trans (List.length_filter_le _ _) (by simp), hf, fun W av hW hav => ⟨h.bel.trans (hW.mono h.bel.size), h2.below hW, (hr.below hW).at_ hav, h1.below hW, ?_⟩⟩
  rw [hk, List.filter_append, h.cnt]
  simp [b]
/-- The row by itself, as it is laid. -/
theorem mato_one {W : World} {k h b : Nat} {r : List Pl.V} (hx : W.heap[k]? = some (.cells #[.slice (some ⟨h, 0, none⟩) r.length b] 32)) (hr : RowsW W W.heap.size 3 vC r (.slice (some ⟨h, 0, none⟩) r.length b)) : MatO W [r] (.slice (some ⟨k, 0, none⟩) 1 1) := by
  refine ⟨_, 1, rfl, by simp, fun _ => ⟨k, 0, rfl, lt_of_blk hx, fun i x hx' => ?_⟩⟩
  have hi : i = 0 := by
    have := (List.getElem?_eq_some_iff.1 hx').1
    simpa using this
  subst hi
  simp at hx'
  subst hx'
  have := blk_cell hx 0
  simp at this
  exact ⟨_, by simpa using this, hr⟩
set_option maxHeartbeats 8000000 in
set_option maxRecDepth 100000 in
theorem partedM (L : LexLib) (X : MachLib) (HS : StableM 19) (raw cnd : List Int) (v1 v2 : Value) (w : World) (h1 : IntsAt w raw v1) (h2 : IntsAt w cnd v2) (hr1 : ∀ x ∈ raw, Pl.in64 x) (hr2 : ∀ x ∈ cnd, Pl.in64 x) (hg : Globs w) :
    Calls Tryz.prog 9 #[v1, v2] w fun e w' => e = .returned (.bool true) ∧ Below w.heap.size w w' := by
  have HSt := hide HS
  have HLex := hide L
  have HMach := hide X
  have HB := hide (baseM L X raw v1 w h1 hr1 hg)
  have HI2 := hide h2
  have HR2 := hide hr2
  have HT := hide (Pl.base_t raw)
  obtain ⟨hl8, hl7, hl1⟩ := Pl.base_len raw
  have HD : Hid (Pl.baseDb raw = Pl.bTab (Pl.baseRows raw).1 (Pl.baseRows raw).2) := rfl
  generalize Pl.baseDb raw = D at *
  generalize (Pl.baseRows raw).1 = rt at *
  generalize (Pl.baseRows raw).2 = ru at *
  obtain ⟨a1, c1, rfl, _⟩ := h1
  obtain ⟨a2, c2, rfl, _⟩ := h2
  clear hg hr1 hr2 HS L X
  go_enter Tryz.func9, Tryz.ntmps9
  go_wp2_with fail
  refine (unhide HB).mono ?_
  rintro e w1 ⟨rfl, hb1, M1, lay1, hl1', hM1⟩
  rw [HD.out] at hl1'
  have HL1 := hide hl1'
  have HB1 := hide hb1
  have HN : Hid (∀ W M', Stp w1 M1 W M' → Below w.heap.size w W) := fun W M' h => stp_own hb1 hM1 h hb1.size
  have HC := hide (condM cnd HR2.out 2 0 _ w1 (by omega) (by omega) (HI2.out.below hb1))
  have hxl := Pl.pC_len cnd
  rw [show Pl.condN cnd 2 0 = Pl.pC cnd from rfl] at HC
  have Hy := hide (Pl.e_yes (ru := ru) HT.out cnd)
  have Hn := hide (Pl.e_no (ru := ru) HT.out cnd)
  have Hu := hide (Pl.e_unk (ru := ru) HT.out cnd)
  have Ht := hide (Pl.e_told (ru := ru) HT.out cnd)
  have Hd := hide (Pl.e_del (ru := ru) HT.out cnd)
  have Ha := hide (Pl.all_exec (ru := ru) HT.out)
  have Ky := hide (Pl.k_yes cnd)
  have Kn := hide (Pl.k_no cnd)
  have Ku := hide (Pl.k_unk cnd)
  have Kt := hide (Pl.k_told cnd)
  have Kd := hide (Pl.k_del cnd)
  have HBo := hide (Pl.pC_bool cnd)
  generalize (Pl.pC cnd).x = x at *
  generalize (Pl.pC cnd).t = t at *
  have Sy := hide (s_yes x)
  have Sn := hide (s_no x)
  have Su := hide (s_unk x)
  have St := hide (s_told x)
  have Sd := hide (s_del x)
  generalize hbb : w.heap.size = bb at *
  have HBB := hide hbb
  clear hbb
  clear hl1' hM1 hb1 HB
  go_wp2_with fail
  refine (unhide HC).mono ?_
  rintro e w2 ⟨rfl, hb2⟩
  have HL2 := hide (HL1.out.below hb2)
  have HS2 : Hid (Stp w1 M1 w2 M1) := Stp.below _ hb2
  clear hb2 HC HL1
  have HC := hide (rowsY HLex.out HMach.out HL2.out (by decide) (ok_sel HSt.out (by omega) (by omega) Pl.k_all) Ha.out rfl)
  go_wp2_with fail
  refine (unhide HC).mono ?_
  rintro e w3 ⟨v3, M3, lay3, rfl, hs3, hl3, hg3⟩
  obtain ⟨a3, c3, rfl⟩ := hg3.slice
  have HS3 := hide (HS2.out.trans hs3)
  have HL3 := hide hl3
  have HG3 := hide hg3
  clear hs3 hl3 hg3 HC HS2 HL2
  have HC := hide (rowsY HLex.out HMach.out HL3.out (by simp [Pl.xSel]; omega) (ok_sel HSt.out (by omega) (by omega) Ky.out) Hy.out rfl)
  rw [← Sy.out] at HC
  go_wp2_with fail
  refine (unhide HC).mono ?_
  rintro e w4 ⟨v4, M4, lay4, rfl, hs4, hl4, hg4⟩
  obtain ⟨a4, c4, rfl⟩ := hg4.slice
  have HS4 := hide (HS3.out.trans hs4)
  have HL4 := hide hl4
  have HG4 := hide hg4
  replace HG3 := hide (HG3.out.step hs4)
  clear hs4 hl4 hg4 HC HS3 HL3 Sy Ky Hy
  have HC := hide (rowsY HLex.out HMach.out HL4.out (by simp [Pl.xSel]; omega) (ok_sel HSt.out (by omega) (by omega) Kn.out) Hn.out rfl)
  rw [← Sn.out] at HC
  go_wp2_with fail
  refine (unhide HC).mono ?_
  rintro e w5 ⟨v5, M5, lay5, rfl, hs5, hl5, hg5⟩
  obtain ⟨a5, c5, rfl⟩ := hg5.slice
  have HS5 := hide (HS4.out.trans hs5)
  have HL5 := hide hl5
  have HG5 := hide hg5
  replace HG3 := hide (HG3.out.step hs5)
  replace HG4 := hide (HG4.out.step hs5)
  clear hs5 hl5 hg5 HC HS4 HL4 Sn Kn Hn
  have HC := hide (rowsY HLex.out HMach.out HL5.out (by simp [Pl.xSel]; omega) (ok_sel HSt.out (by omega) (by omega) Ku.out) Hu.out rfl)
  rw [← Su.out] at HC
  go_wp2_with fail
  refine (unhide HC).mono ?_
  rintro e w6 ⟨v6, M6, lay6, rfl, hs6, hl6, hg6⟩
  obtain ⟨a6, c6, rfl⟩ := hg6.slice
  have HS6 := hide (HS5.out.trans hs6)
  have HL6 := hide hl6
  have HG6 := hide hg6
  replace HG3 := hide (HG3.out.step hs6)
  replace HG4 := hide (HG4.out.step hs6)
  replace HG5 := hide (HG5.out.step hs6)
  clear hs6 hl6 hg6 HC HS5 HL5 Su Ku Hu
  have HC := hide (rowsY HLex.out HMach.out HL6.out (by simp [Pl.xTold]; omega) (ok_sel HSt.out (by omega) (by omega) Kt.out) Ht.out rfl)
  rw [← St.out] at HC
  go_wp2_with fail
  refine (unhide HC).mono ?_
  rintro e w7 ⟨v7, M7, lay7, rfl, hs7, hl7, hg7⟩
  obtain ⟨a7, c7, rfl⟩ := hg7.slice
  have HS7 := hide (HS6.out.trans hs7)
  have HL7 := hide hl7
  have HG7 := hide hg7
  replace HG3 := hide (HG3.out.step hs7)
  replace HG4 := hide (HG4.out.step hs7)
  replace HG5 := hide (HG5.out.step hs7)
  replace HG6 := hide (HG6.out.step hs7)
  clear hs7 hl7 hg7 HC HS6 HL6 St Kt Ht
  have hsum := Pl.three_len HBo.out HT.out
  have hmap : (rt.map (fun r => Pl.evV t r :: r)).length = rt.length := by simp
  generalize hny : (rt.filter (Pl.isYes t)).length = ny at *
  generalize hnn : (rt.filter (Pl.isNo t)).length = nn at *
  generalize hnu : (rt.filter (Pl.isNil t)).length = nu at *
  have HP0 : Hid (PartI t rt w7 w7 0 (.slice a4 ny c4) (.slice a5 nn c5) (.slice a6 nu c6) 0) := by
    refine ⟨Below.refl _ _, ?_, ?_, ?_, by simp⟩
    · exact HG4.out.mato
    · exact HG5.out.mato
    · exact HG6.out.mato
  have HNy := hide hny
  clear hny hnn hnu
  rw [hmap] at *
  have HM3 := hide HG3.out.mato
  have HM7 := hide HG7.out.mato
  clear HG4 HG5 HG6 HG7
  have hz0 : ((rt.length : Int) == 0) = false := by simp; rintro rfl; simp at hl1
  go_wp2_with fail
  have HSum := hide hsum
  clear hsum hmap
  go_loopw [9, 11, 13, 17, 18] (fun s9 s11 s13 s17 s18 wr => ∃ (i n : Nat), i ≤ rt.length ∧ n ≤ i ∧ s18 = .int .i64 (i : Nat) ∧ s17 = .int .i64 (n : Nat) ∧ Hid (PartI t rt w7 wr i s9 s11 s13 n)) (fun _ _ _ _ a _ => rt.length - (intOf a).toNat)
  case atStart => exact ⟨0, 0, Nat.zero_le _, Nat.le_refl _, rfl, rfl, HP0.out⟩
  case round =>
    obtain ⟨i, n, hi, hn, rfl, rfl, HI⟩ := hrel
    clear HP0
    have hbI := HI.out.bel
    by_cases hlt : i < rt.length
    · have hri : rt[i]? = some rt[i] := List.getElem?_eq_getElem hlt
      have hTr := HT.out _ (List.getElem_mem hlt)
      obtain ⟨_, _, e3, _, k3⟩ := HM3.out.below hbI
      obtain ⟨_, _, e7, _, k7⟩ := HM7.out.below hbI
      cases e3
      rw [List.length_map] at e7
      cases e7
      obtain ⟨g3, o3, rfl, z3, m3⟩ := k3 (by rintro rfl; simp at hlt)
      obtain ⟨g7, o7, rfl, z7, m7⟩ := k7 (by intro e; rw [List.map_eq_nil_iff] at e; subst e; simp at hlt)
      obtain ⟨u3, d3, r3⟩ := m3 i _ hri
      obtain ⟨u7, d7, r7⟩ := m7 i (Pl.evV t rt[i] :: rt[i]) (by simp [hri])
      have HTh := hide (Pl.three HBo.out hTr)
      have HSp : Hid (rt.drop i = rt[i] :: rt.drop (i + 1)) := List.drop_eq_getElem_cons hlt
      have HTk : Hid (rt.take (i + 1) = rt.take i ++ [rt[i]]) := (List.take_append_getElem hlt).symm
      obtain ⟨va, vb, vc, hrow, _⟩ := hTr
      rw [hrow] at r3 r7 HTh HSp HTk
      generalize Pl.evV t [va, vb, vc] = ve at *
      obtain ⟨h3, b3, rfl, y3, p0, p1, p2⟩ := r3.val (i := 0) (by simp)
      obtain ⟨h3', b3', e, _, p3, p4, p5⟩ := r3.val (i := 1) (by simp)
      cases e
      obtain ⟨h3', b3', e, _, p6, p7, p8⟩ := r3.val (i := 2) (by simp)
      cases e
      obtain ⟨h7, b7, rfl, y7, q0, q1, q2⟩ := r7.val (i := 0) (by simp)
      obtain ⟨h7', b7', e, _, q3, q4, q5⟩ := r7.val (i := 1) (by simp)
      cases e
      obtain ⟨h7', b7', e, _, q6, q7, q8⟩ := r7.val (i := 2) (by simp)
      cases e
      obtain ⟨h7', b7', e, _, q9, q10, q11⟩ := r7.val (i := 3) (by simp)
      cases e
      simp at p0 p1 p2 p3 p4 p5 p6 p7 p8 q0 q1 q2 q3 q4 q5 q6 q7 q8 q9 q10 q11
      have hnq := neq_run
      clear m3 m7 k3 k7 hri hrow r7
      have HR3 := hide r3
      clear r3
      go_upto_region 19 with fail
      generalize hWx : wr.alloc (.cells #[.slice (some ⟨h3, 0, none⟩) 3 b3] 32) = W at *
      have hbW : Below wr.heap.size wr W := by rw [← hWx]; exact (Below.refl _ _).alloc (Nat.le_refl _) _
      have HX : Hid (W.heap[wr.heap.size]? = some (.cells #[.slice (some ⟨h3, 0, none⟩) 3 b3] 32)) := by unfold Hid; rw [← hWx]; exact blk_new _ _
      have d3 := (hbW.cell (p := ⟨g3, o3 + i, none⟩) z3).trans d3
      have p0 := (hbW.cell (p := ⟨h3, 0, none⟩) y3).trans p0
      have p1 := (hbW.cell (p := ⟨h3, 1, none⟩) y3).trans p1
      have p2 := (hbW.cell (p := ⟨h3, 2, none⟩) y3).trans p2
      have p3 := (hbW.cell (p := ⟨h3, 3, none⟩) y3).trans p3
      have p4 := (hbW.cell (p := ⟨h3, 4, none⟩) y3).trans p4
      have p5 := (hbW.cell (p := ⟨h3, 5, none⟩) y3).trans p5
      have p6 := (hbW.cell (p := ⟨h3, 6, none⟩) y3).trans p6
      have p7 := (hbW.cell (p := ⟨h3, 7, none⟩) y3).trans p7
      have p8 := (hbW.cell (p := ⟨h3, 8, none⟩) y3).trans p8
      have q0 := (hbW.cell (p := ⟨h7, 0, none⟩) y7).trans q0
      have q1 := (hbW.cell (p := ⟨h7, 1, none⟩) y7).trans q1
      have q2 := (hbW.cell (p := ⟨h7, 2, none⟩) y7).trans q2
      have q3 := (hbW.cell (p := ⟨h7, 3, none⟩) y7).trans q3
      have q4 := (hbW.cell (p := ⟨h7, 4, none⟩) y7).trans q4
      have q5 := (hbW.cell (p := ⟨h7, 5, none⟩) y7).trans q5
      have q6 := (hbW.cell (p := ⟨h7, 6, none⟩) y7).trans q6
      have q7 := (hbW.cell (p := ⟨h7, 7, none⟩) y7).trans q7
      have q8 := (hbW.cell (p := ⟨h7, 8, none⟩) y7).trans q8
      have q9 := (hbW.cell (p := ⟨h7, 9, none⟩) y7).trans q9
      have q10 := (hbW.cell (p := ⟨h7, 10, none⟩) y7).trans q10
      have q11 := (hbW.cell (p := ⟨h7, 11, none⟩) y7).trans q11
      have zz3 : g3 < W.heap.size := Nat.lt_of_lt_of_le z3 hbW.size
      have yy3 : h3 < W.heap.size := Nat.lt_of_lt_of_le y3 hbW.size
      have yy7 : h7 < W.heap.size := Nat.lt_of_lt_of_le y7 hbW.size
      have HBW := hide hbW
      clear hbW hWx z3 y3 y7
      go_cut [171] from 110 to 240 (fun s171 wx => s171 = .bool false ∧ wx = W.drew)
      case first =>
        go_region
        all_goals go_wp2_with fail
        all_goals go_meet
        all_goals exact ⟨rfl, rfl⟩
      case rest =>
        obtain ⟨rfl, hwc⟩ := hcut
        subst hwc
        have HBd : Hid (Below wr.heap.size wr W.drew) := HBW.out.drew
        have HMr : Hid (MatO W.drew [[va, vb, vc]] (.slice (some ⟨wr.heap.size, 0, none⟩) 1 1)) := mato_one (r := [va, vb, vc]) HX.out (HR3.out.below HBd.out)
        clear d3 p0 p1 p2 p3 p4 p5 p6 p7 p8 q3 q4 q5 q6 q7 q8 q9 q10 q11
        rcases HTh.out with ⟨rfl, f1, f2, f3⟩ | ⟨rfl, f1, f2, f3⟩ | ⟨rfl, f1, f2, f3⟩
        · obtain ⟨gu, ou, cu, m, rfl, hmc, hml, hmo, hnx⟩ := HI.out.stepNil HSp.out HTk.out f1 f2 f3
          have HC := hide (sameY [[va, vb, vc]] _ _ W.drew (hmo.below HBd.out) HMr.out (by simp) (by simp))
          have HNx := hide hnx
          simp [Pl.nul, Pl.tru] at q0 q1
          clear hmo hnx f1 f2 f3 HTh
          go_wp2_with fail
          refine (unhide HC).mono ?_
          rintro e y1 ⟨rfl, hy1⟩
          have HN' : Hid (∀ av, (m = 0 ∨ av = some ⟨gu, ou + 1, none⟩) → PartI t rt w7 y1 (i + 1) u9 u11 (.slice av m (cu - 1)) n) := fun av hav => HNx.out y1 av (HBd.out.trans (hy1.mono HBd.out.size)) hav
          clear hy1 HC HNx q0 q1 q2 HSp HTk HX HR3 HMr HBW HBd
          go_upto_region 31 with fail
          have hav : m = 0 ∨ (if cu = 1 then some (⟨gu, ou, none⟩ : Addr) else some ⟨gu, ou + 1, none⟩) = some ⟨gu, ou + 1, none⟩ := by
            by_cases h : cu = 1
            · exact .inl (by omega)
            · exact .inr (if_neg h)
          have HN2 := hide (HN'.out _ hav)
          generalize (if cu = 1 then some (⟨gu, ou, none⟩ : Addr) else some ⟨gu, ou + 1, none⟩) = av at *
          clear hav HN'
          clear hnq hmc hml
          go_wp2_with fail
          go_roundw
          case rel => exact ⟨i + 1, n, by omega, by omega, by go_num, by go_num, HN2.out⟩
          case measure => simp [intOf]; omega
        · obtain ⟨gu, ou, cu, m, rfl, hmc, hml, hmo, hnx⟩ := HI.out.stepYes HSp.out HTk.out f1 f2 f3
          have HC := hide (sameY [[va, vb, vc]] _ _ W.drew (hmo.below HBd.out) HMr.out (by simp) (by simp))
          have HNx := hide hnx
          simp [Pl.nul, Pl.tru] at q0 q1
          clear hmo hnx f1 f2 f3 HTh
          go_wp2_with fail
          refine (unhide HC).mono ?_
          rintro e y1 ⟨rfl, hy1⟩
          have HN' : Hid (∀ av, (m = 0 ∨ av = some ⟨gu, ou + 1, none⟩) → PartI t rt w7 y1 (i + 1) (.slice av m (cu - 1)) u11 u13 (n + 1)) := fun av hav => HNx.out y1 av (HBd.out.trans (hy1.mono HBd.out.size)) hav
          clear hy1 HC HNx q0 q1 q2 HSp HTk HX HR3 HMr HBW HBd
          go_upto_region 31 with fail
          have hav : m = 0 ∨ (if cu = 1 then some (⟨gu, ou, none⟩ : Addr) else some ⟨gu, ou + 1, none⟩) = some ⟨gu, ou + 1, none⟩ := by
            by_cases h : cu = 1
            · exact .inl (by omega)
            · exact .inr (if_neg h)
          have HN2 := hide (HN'.out _ hav)
          generalize (if cu = 1 then some (⟨gu, ou, none⟩ : Addr) else some ⟨gu, ou + 1, none⟩) = av at *
          clear hav HN'
          clear hnq hmc hml
          go_wp2_with fail
          go_roundw
          case rel => exact ⟨i + 1, (n + 1), by omega, by omega, by go_num, by go_num, HN2.out⟩
          case measure => simp [intOf]; omega
        · obtain ⟨gu, ou, cu, m, rfl, hmc, hml, hmo, hnx⟩ := HI.out.stepNo HSp.out HTk.out f1 f2 f3
          have HC := hide (sameY [[va, vb, vc]] _ _ W.drew (hmo.below HBd.out) HMr.out (by simp) (by simp))
          have HNx := hide hnx
          simp [Pl.nul, Pl.tru] at q0 q1
          clear hmo hnx f1 f2 f3 HTh
          go_wp2_with fail
          refine (unhide HC).mono ?_
          rintro e y1 ⟨rfl, hy1⟩
          have HN' : Hid (∀ av, (m = 0 ∨ av = some ⟨gu, ou + 1, none⟩) → PartI t rt w7 y1 (i + 1) u9 (.slice av m (cu - 1)) u13 n) := fun av hav => HNx.out y1 av (HBd.out.trans (hy1.mono HBd.out.size)) hav
          clear hy1 HC HNx q0 q1 q2 HSp HTk HX HR3 HMr HBW HBd
          go_upto_region 31 with fail
          have hav : m = 0 ∨ (if cu = 1 then some (⟨gu, ou, none⟩ : Addr) else some ⟨gu, ou + 1, none⟩) = some ⟨gu, ou + 1, none⟩ := by
            by_cases h : cu = 1
            · exact .inl (by omega)
            · exact .inr (if_neg h)
          have HN2 := hide (HN'.out _ hav)
          generalize (if cu = 1 then some (⟨gu, ou, none⟩ : Addr) else some ⟨gu, ou + 1, none⟩) = av at *
          clear hav HN'
          clear hnq hmc hml
          go_wp2_with fail
          go_roundw
          case rel => exact ⟨i + 1, n, by omega, by omega, by go_num, by go_num, HN2.out⟩
          case measure => simp [intOf]; omega
    · obtain rfl : i = rt.length := by omega
      have hcn : n = ny := by
        have := HI.out.cnt
        rw [List.take_length, HNy.out] at this
        exact this
      subst hcn
      have HLr := hide (HL7.out.below hbI)
      have HSr := hide (HS7.out.trans (Stp.below _ hbI))
      have HC := hide (execK HLex.out HMach.out HLr.out (t := Pl.xDel ++ x) (by simp [Pl.xDel]; omega) (execOk_kind (k := 100) Kd.out (by decide) (by decide)) Hd.out)
      rw [← Sd.out] at HC
      have hlf := Pl.left_len (f := Pl.isYes t) (rows := rt)
      rw [HNy.out] at hlf
      have HA2 := hide (Pl.all_exec (ru := ru) (rt := rt.filter (fun r => !Pl.isYes t r)) (fun r hr => HT.out r (List.mem_filter.1 hr).1))
      generalize rt.filter (fun r => !Pl.isYes t r) = rl at *
      have HLf := hide hlf
      clear HI hbI HM3 HM7 HG3 HS7 HL7 HSum Hd Kd Sd Ha hlf
      go_wp2_with fail
      refine (unhide HC).mono ?_
      rintro e w8 ⟨rv8, M8, lay8, rfl, hs8, hl8', hg8⟩
      obtain ⟨a8, c8, rfl⟩ := hg8.slice
      have HS8 : Hid (Stp w1 M1 (w8.alloc (.cells #[.slice a8 0 c8, .int .i64 (n : Nat)] 36)) M8) := stp_box (HSr.out.trans hs8) _
      have HX8 := hide (Bx.new hl8' hg8 (n : Nat))
      have HL8 := hide (live_box hl8' (.cells #[.slice a8 0 c8, .int .i64 (n : Nat)] 36))
      have hrl : rl.length ≤ 19 := by have := HLf.out; omega
      have HC := hide (rowsY HLex.out HMach.out HL8.out (by decide) (ok_sel HSt.out hrl (by omega) Pl.k_all) HA2.out rfl)
      clear hs8 hl8' hg8 HLr HSr
      go_wp2_with fail
      refine (unhide HC).mono ?_
      rintro e w9 ⟨v9, M9, lay9, rfl, hs9, hl9, hg9⟩
      obtain ⟨a9, c9, rfl⟩ := hg9.slice
      obtain ⟨xz, x0, x1⟩ := (HX8.out.step hs9).cells
      have hq : ((rl.length : Int) == ((rt.length : Nat) : Int) - (n : Nat)) = true := by
        have := HLf.out
        simp; omega
      have HB9 := hide (HN.out _ _ (HS8.out.trans hs9))
      clear hs9 hl9 hg9 HC HS8 HX8 HL8
      go_wp2_with fail
      go_ret
      exact ⟨rfl, by rw [HBB.out]; exact HB9.out⟩
end Go.Proofs.YtojdpjpldokjmaaGreatDoor
