/- The keeps' own: base, a database made of raw numbers. -/
import Derived.Test.YtojdpjpldokjmaaGreatDoorG34
import Derived.Test.YtojdpjpldokjmaaGreatDoorG36
namespace Go.Proofs.YtojdpjpldokjmaaGreatDoor
open Go.RowKit Go.Deep
set_option linter.unusedSimpArgs false
set_option linter.unusedVariables false

theorem stp_own {w w1 w2 : World} {M0 M2 : Nat → Prop} {B : Nat} (h1 : Below B w w1) (hM : ∀ k, M0 k → B ≤ k) (h2 : Stp w1 M0 w2 M2) (hB : B ≤ w1.heap.size) : Below B w w2 :=
  h1.trans ⟨h2.keep.os, h2.keep.tape, h2.keep.output, h2.keep.size, fun k hk => h2.keep.block k ⟨by omega, fun hm => by have := hM k hm; omega⟩⟩
end Go.Proofs.YtojdpjpldokjmaaGreatDoor
/- The keeps' own: same. -/
namespace Go.Proofs.YtojdpjpldokjmaaGreatDoor
open Go.RowKit Go.Deep
set_option linter.unusedSimpArgs false
set_option linter.unusedVariables false

/-- Rows in memory, only read, from some place of a block on. -/
def MatO (w : World) (rows : List (List Pl.V)) (v : Value) : Prop := ∃ a c, v = .slice a rows.length c ∧ rows.length ≤ c ∧ (rows ≠ [] → ∃ g o, a = some ⟨g, o, none⟩ ∧ g < w.heap.size ∧ ∀ (i : Nat) (r : List Pl.V), rows[i]? = some r → ∃ u, w.cell? ⟨g, o + i, none⟩ = some u ∧ RowsW w w.heap.size 3 vC r u)
theorem MatO.of {w : World} {qs : List Pl.PRow} {v : Value} (h : MatW w w.heap.size qs v) (hc : ∀ a n c, v = .slice a n c → n ≤ c) : MatO w (qs.map (·.1)) v := by
  obtain ⟨⟨a, c, rfl, h2⟩, h3⟩ := h
  refine ⟨a, c, by rw [List.length_map], by rw [List.length_map]; exact hc _ _ _ rfl, fun hn => ?_⟩
  obtain ⟨g, rfl, hg, h4⟩ := h2 (by rintro rfl; simp at hn)
  refine ⟨g, 0, rfl, hg, fun i r hr => ?_⟩
  rw [List.getElem?_map] at hr
  cases hq : qs[i]? with
  | none => rw [hq] at hr; cases hr
  | some q =>
    rw [hq] at hr
    cases hr
    have := h4 i q hq 0 q.2 rfl
    refine ⟨q.2, by simpa using this, h3 q (List.mem_of_getElem? hq)⟩
theorem Got.mato {w : World} {M : Nat → Prop} {rows : List (List Pl.V)} {rv : Value} (h : Got w M rows rv) : MatO w rows rv := by
  obtain ⟨qs, rfl, h2, h3, _⟩ := h
  refine MatO.of (mat_own h2 (fun q hq => own_rows (f := vC) (fun _ => rfl) (h3 q hq) (Nat.le_refl _))) (fun a n c e => ?_)
  obtain ⟨a', c', e', hc⟩ := own_cap h2
  rw [e] at e'
  cases e'
  exact hc
theorem MatO.below {w w' : World} {rows : List (List Pl.V)} {v : Value} (h : MatO w rows v) (hb : Below w.heap.size w w') : MatO w' rows v := by
  obtain ⟨a, c, h1, hc, h2⟩ := h
  refine ⟨a, c, h1, hc, fun hn => ?_⟩
  obtain ⟨g, o, h3, h4, h5⟩ := h2 hn
  refine ⟨g, o, h3, Nat.lt_of_lt_of_le h4 hb.size, fun i r hr => ?_⟩
  obtain ⟨u, h6, h7⟩ := h5 i r hr
  exact ⟨u, by rw [hb.cell h4]; exact h6, h7.below hb⟩
/-- The first row alone; all but it. -/
theorem MatO.first {w : World} {r : List Pl.V} {rs : List (List Pl.V)} {v : Value} (h : MatO w (r :: rs) v) : ∃ g o c, v = .slice (some ⟨g, o, none⟩) (rs.length + 1) c ∧ rs.length + 1 ≤ c ∧ g < w.heap.size ∧ MatO w [r] (.slice (some ⟨g, o, none⟩) 1 c) ∧ MatO w rs (.slice (some ⟨g, o + 1, none⟩) rs.length (c - 1)) := by
  obtain ⟨a, c, rfl, hc, h2⟩ := h
  obtain ⟨g, o, rfl, hg, h3⟩ := h2 (by simp)
  simp at hc
  refine ⟨g, o, c, by simp, hc, hg, ⟨_, c, rfl, by simp; omega, fun _ => ⟨g, o, rfl, hg, fun i x hx => ?_⟩⟩, ⟨_, c - 1, rfl, by omega, fun _ => ⟨g, o + 1, rfl, hg, fun i x hx => ?_⟩⟩⟩
  · have hi : i = 0 := by
      have := (List.getElem?_eq_some_iff.1 hx).1
      simpa using this
    subst hi
    exact h3 0 x (by simpa using hx)
  · have := h3 (i + 1) x (by simpa using hx)
    rw [show o + 1 + i = o + (i + 1) by omega]
    exact this
theorem neq_run (a b : Int) (c : ByteArray) (w : World) : Sem.run Tryz.prog (binOp .neq 34 (.agg #[.int .i64 a, .int .i64 b, .string c]) (.agg #[.int .i64 a, .int .i64 b, .string c])) w = .ok (.bool false) w := by
  simp [go_sem]

set_option maxHeartbeats 4000000 in
set_option maxRecDepth 100000 in
theorem sameY (rows : List (List Pl.V)) (v1 v2 : Value) (w : World) (h1 : MatO w rows v1) (h2 : MatO w rows v2) (hl : rows.length ≤ 100000) (hr : ∀ r ∈ rows, r.length ≤ 1000) :
    Calls Tryz.prog 25 #[v1, v2] w fun e w' => e = .returned (.bool true) ∧ Below w.heap.size w w' := by
  have H1 := hide h1
  have H2 := hide h2
  have HR := hide hr
  obtain ⟨a1, c1, rfl, _, _⟩ := h1
  obtain ⟨a2, c2, rfl, _, _⟩ := h2
  have hnq := neq_run
  clear hr
  go_enter Tryz.func25, Tryz.ntmps25
  go_wp2_with fail
  go_loopw [5] (fun s5 wr => ∃ (i : Nat), i ≤ rows.length ∧ s5 = .int .i64 (i : Nat) ∧ Hid (Below w.heap.size w wr)) (fun a _ => rows.length - (intOf a).toNat)
  case atStart => exact ⟨0, Nat.zero_le _, rfl, Below.refl _ _⟩
  case round =>
    obtain ⟨i, hi, rfl, HI⟩ := hrel
    by_cases hlt : i < rows.length
    · have hri : rows[i]? = some rows[i] := List.getElem?_eq_getElem hlt
      have hrl := HR.out _ (List.getElem_mem hlt)
      obtain ⟨_, _, e1, _, k1⟩ := H1.out.below HI.out
      obtain ⟨_, _, e2, _, k2⟩ := H2.out.below HI.out
      cases e1; cases e2
      have hne : rows ≠ [] := by rintro rfl; simp at hlt
      obtain ⟨g1, o1, rfl, z1, m1⟩ := k1 hne
      obtain ⟨g2, o2, rfl, z2, m2⟩ := k2 hne
      obtain ⟨u1, d1, r1⟩ := m1 i _ hri
      obtain ⟨u2, d2, r2⟩ := m2 i _ hri
      generalize rows[i] = r at *
      have HV1 : Hid (∀ k, k < r.length → _) := fun k hk => r1.val hk
      have HV2 : Hid (∀ k, k < r.length → _) := fun k hk => r2.val hk
      obtain ⟨b1, e1, f1⟩ := r1.slice
      obtain ⟨b2, e2, f2⟩ := r2.slice
      subst f1; subst f2
      clear m1 m2 r1 r2 hri k1 k2 hne
      go_wp2_with fail
      go_region
      all_goals go_wp2_with fail
      all_goals
        go_loopw [6] (fun s6 wz => ∃ (k : Nat), k ≤ r.length ∧ s6 = .int .i64 (k : Nat) ∧ Hid (Below wr.heap.size wr wz)) (fun a _ => r.length - (intOf a).toNat)
        case atStart => exact ⟨0, Nat.zero_le _, rfl, (Below.refl _ _).drew⟩
        case round =>
          obtain ⟨k, hk, rfl, HK⟩ := hrel
          have x1 := (HK.out.cell (p := ⟨g1, o1 + i, none⟩) z1).trans d1
          have x2 := (HK.out.cell (p := ⟨g2, o2 + i, none⟩) z2).trans d2
          by_cases hkl : k < r.length
          · obtain ⟨h1, _, e, y1, t0, t1, t2⟩ := HV1.out k hkl
            cases e
            obtain ⟨h2, _, e, y2, s0, s1, s2⟩ := HV2.out k hkl
            cases e
            have t0 := (HK.out.cell (p := ⟨h1, k * 3, none⟩) y1).trans t0
            have t1 := (HK.out.cell (p := ⟨h1, k * 3 + 1, none⟩) y1).trans t1
            have t2 := (HK.out.cell (p := ⟨h1, k * 3 + 2, none⟩) y1).trans t2
            have s0 := (HK.out.cell (p := ⟨h2, k * 3, none⟩) y2).trans s0
            have s1 := (HK.out.cell (p := ⟨h2, k * 3 + 1, none⟩) y2).trans s1
            have s2 := (HK.out.cell (p := ⟨h2, k * 3 + 2, none⟩) y2).trans s2
            generalize r[k] = x at *
            go_wp2_with fail
            go_region
            all_goals go_wp2_with fail
            all_goals
              go_roundw
              case rel => exact ⟨k + 1, by omega, by go_num, HK.out.drew⟩
              case measure => simp [intOf]; omega
          · have HB := hide (HI.out.trans (HK.out.mono HI.out.size))
            go_wp2_with fail
            go_roundw
            case rel => exact ⟨i + 1, by omega, by go_num, HB.out⟩
            case measure => simp [intOf]; omega
    · go_wp2_with fail
      go_ret
      exact ⟨rfl, HI.out⟩
end Go.Proofs.YtojdpjpldokjmaaGreatDoor
