/- The code's compiler: the name of a column. -/
import Derived.Test.YtojdpjpldokjmaaGreatDoorJ22
import Derived.BigQuiet
namespace Go.Proofs.YtojdpjpldokjmaaGreatDoor
open Go.RowKit Go.Deep
set_option linter.unusedSimpArgs false
set_option linter.unusedVariables false

theorem RowsW.col {w : World} {hi : Nat} {cols : List Pl.Col} {v : Value} (h : RowsW w hi 3 colC cols v) {i : Nat} {c : Pl.Col} (hc : cols[i]? = some c) : ∃ g cap, v = .slice (some ⟨g, 0, none⟩) cols.length cap ∧ g < hi ∧
    w.cell? ⟨g, i * 3, none⟩ = some (.string ⟨c.src.toArray⟩) ∧ w.cell? ⟨g, i * 3 + 1, none⟩ = some (.string ⟨c.name.toArray⟩) ∧ w.cell? ⟨g, i * 3 + 2, none⟩ = some (.int .i64 c.type) := by
  obtain ⟨a, cap, rfl, h2⟩ := h
  obtain ⟨g, rfl, hg, h3⟩ := h2 (by rintro rfl; simp at hc)
  exact ⟨g, cap, rfl, hg, h3 i c hc 0 _ rfl, h3 i c hc 1 _ rfl, h3 i c hc 2 _ rfl⟩
theorem eq_facts {a b : List UInt8} (h : a = b) : (a == b) = true ∧ (a != b) = false := by subst h; simp
theorem ne_facts {a b : List UInt8} (h : ¬ a = b) : (a == b) = false ∧ (a != b) = true := by simp [h]
def fI : Option Nat → Int
  | none => -1
  | some j => j
/-- The search for a column: behind i of them. -/
def NameI (w wr : World) (p : Pl.Pay) (cols : List Pl.Col) (i : Nat) (f : Option Nat) : Prop := Pl.colGo p.src p.name (cols.drop i) i f = Pl.colAt cols p.src p.name ∧ (∀ j, f = some j → j < i) ∧ Below w.heap.size w wr

theorem below_drewN {B : Nat} {a b : World} (h : Below B a b) (m : Nat) : Below B a (b.drewN m) := ⟨h.os, h.tape, h.output, h.size, h.block⟩
theorem NameI.next {w wr : World} {p : Pl.Pay} {cols : List Pl.Col} {i : Nat} {f : Option Nat} {c : Pl.Col} (h : NameI w wr p cols i f) (hd : cols.drop i = c :: cols.drop (i + 1)) (hc : c.is p.src p.name = false) {o : Obj} (m : Nat) : NameI w ((wr.alloc o).drewN m) p cols (i + 1) f := by
  obtain ⟨h1, h2, h3⟩ := h
  refine ⟨?_, fun j hj => Nat.lt_succ_of_lt (h2 j hj), below_drewN (h3.alloc h3.size _) m⟩
  rw [hd, Pl.colGo.eq_def] at h1
  simp only [hc] at h1
  exact h1
theorem NameI.hit {w wr : World} {p : Pl.Pay} {cols : List Pl.Col} {i : Nat} {c : Pl.Col} (h : NameI w wr p cols i none) (hd : cols.drop i = c :: cols.drop (i + 1)) (hc : c.is p.src p.name = true) {o : Obj} (m : Nat) : NameI w ((wr.alloc o).drewN m) p cols (i + 1) (some i) := by
  obtain ⟨h1, h2, h3⟩ := h
  refine ⟨?_, fun j hj => by cases hj; omega, below_drewN (h3.alloc h3.size _) m⟩
  rw [hd, Pl.colGo, hc] at h1
  exact h1
theorem NameI.twice {w wr : World} {p : Pl.Pay} {cols : List Pl.Col} {i j : Nat} {c : Pl.Col} (h : NameI w wr p cols i (some j)) (hd : cols.drop i = c :: cols.drop (i + 1)) (hc : c.is p.src p.name = true) : Pl.colAt cols p.src p.name = none := by
  obtain ⟨h1, h2, h3⟩ := h
  rw [hd, Pl.colGo, hc] at h1
  exact h1.symm
set_option maxHeartbeats 4000000 in
set_option maxRecDepth 100000 in
theorem cNameS {a1 a2 : Nat} {p : Pl.Pay} {l r : Pl.T} (h1 : p.op = 1) : ValS 286 (.node a1 a2 p l r) := by
  intro cols code cb P w v hcl hc ht hl
  obtain ⟨n, vl, vr, rfl, hn, hb, hL, hR⟩ := ht
  have hcb := hc.lt
  have hnz : n < w.heap.size := by omega
  have HB := hide hb
  have HC := hide hc
  have HL := hide hl
  obtain ⟨cv, sv, hbx, hcv⟩ : ∃ cv sv, w.heap[cb]? = some (.cells #[cv, sv] 362) ∧ RowsW w cb 3 colC cols cv := by
    obtain ⟨_, _, _, _, _, cv, sv, h5, h6, _⟩ := hc; exact ⟨cv, sv, h5, h6⟩
  have HBX := hide hbx
  have HCV := hide hcv
  have hcs : ∃ a cap, cv = .slice a cols.length cap := by obtain ⟨a, cap, h, _⟩ := hcv; exact ⟨a, cap, h⟩
  obtain ⟨ca, cc, rfl⟩ := hcs
  have b0 := blk_cell hbx 0
  simp at b0
  have HE := hide (fun w' Q i (k : CmpW w' cb Q cols code) => emitS ⟨1, Pl.nul, i⟩ cols code cb Q w' k (by rw [Pl.sz] at hl; omega))
  have HT : Hid (Pl.tc cols (.node a1 a2 p l r) = match Pl.colAt cols p.src p.name with | some i => .ok (Pl.typeAt cols i) | none => .error 2) := by
    unfold Hid
    rw [Pl.tc, if_neg (by omega), if_pos h1]
    cases Pl.colAt cols p.src p.name <;> rfl
  have HG : Hid (Pl.gen cols code.length (.node a1 a2 p l r) = [⟨1, Pl.nul, Pl.idx cols p⟩]) := by
    unfold Hid
    rw [Pl.gen, if_neg (by omega), if_pos h1]
  clear hc hb hL hR hbx hcv hl
  have HPost : Hid (∀ (o : Pl.Out Int) (e : Ending) (w' : World), Pl.tc cols (.node a1 a2 p l r) = o → e = .returned (outI o) → KP P w w' → (∃ code', CmpW w' cb P cols code' ∧ code'.length ≤ code.length + 2 ∧ ∀ ty, o = .ok ty → code' = code ++ [⟨1, Pl.nul, Pl.idx cols p⟩]) → PostCV w cb P cols code (.node a1 a2 p l r) e w') := by
    intro o e w' ho he hk ⟨code', h1, h2, h3⟩
    refine ⟨by rw [ho]; exact he, hk, code', h1, by rw [Pl.sz]; omega, fun ty hty => ?_⟩
    rw [HG.out]
    exact h3 ty (by rw [← ho]; exact hty)
  have HBad : Hid (Pl.colAt cols p.src p.name = none → ∀ w', Below w.heap.size w w' → PostCV w cb P cols code (.node a1 a2 p l r) (.returned (.tuple #[.int .i64 0, .int .i64 2])) w') := by
    intro hn w' hb
    refine HPost.out (.error 2) _ _ (by rw [HT.out, hn]) rfl (KP.below hb (fun k hk => (HC.out.1 k hk).1)) ⟨code, (HC.out.below hb).back HC.out.2.1, by omega, fun ty h => by cases h⟩
  generalize PostCV w cb P cols code (.node a1 a2 p l r) = Post at *
  go_enter Tryz.func286, Tryz.ntmps286
  go_wp2_with fail
  go_loopw [6, 14] (fun s6 s14 wr => ∃ (i : Nat) (f : Option Nat), i ≤ cols.length ∧ s14 = .int .i64 i ∧ s6 = .int .i64 (fI f) ∧ Hid (NameI w wr p cols i f)) (fun _ a _ => cols.length - (intOf a).toNat)
  case atStart => exact ⟨0, none, Nat.zero_le _, rfl, rfl, rfl, fun j h => (by cases h), Below.refl _ _⟩
  case round =>
    obtain ⟨i, f, hi, rfl, rfl, HI⟩ := hrel
    have hbz := HI.out.2.2.size
    by_cases hlt : i < cols.length
    · have hci : cols[i]? = some cols[i] := List.getElem?_eq_getElem hlt
      have HD : Hid (cols.drop i = cols[i] :: cols.drop (i + 1)) := List.drop_eq_getElem_cons hlt
      generalize cols[i] = c at *
      obtain ⟨g, cap, he, hg, e0, e1, e2⟩ := (HCV.out.keep (fun k hk => HI.out.2.2.block k (by omega))).col hci
      cases he
      have hgz : g < wr.heap.size := by omega
      have hbr := below_blk HI.out.2.2 hnz HB.out
      have d4 := blk_cell hbr 4
      have d5 := blk_cell hbr 5
      simp at d4 d5
      have hnr := lt_of_blk hbr
      clear hbr
      by_cases q1 : c.name = p.name
      · obtain ⟨qa, qb⟩ := eq_facts q1
        by_cases q2 : p.src = []
        · obtain ⟨ra, rb⟩ := eq_facts q2
          have Q1 := hide q1
          have Q2 := hide q2
          clear q1 q2
          cases hf : f with
          | none =>
            subst hf
            go_wp2_with fail
            go_quiet (fail)
            go_wp2_with fail
            go_roundw
            case rel => exact ⟨i + 1, some i, by omega, by go_num, rfl, HI.out.hit HD.out (by unfold Pl.Col.is; simp [Q1.out, Q2.out]) nq⟩
            case measure => simp [intOf]; omega
          | some j =>
            subst hf
            have hj : 0 ≤ fI (some j) := by simp [fI]
            have HN := hide (HI.out.twice HD.out (by unfold Pl.Col.is; simp [Q1.out, Q2.out]))
            go_wp2_with fail
            go_quiet (fail)
            go_wp2_with fail
            exact HBad.out HN.out _ (below_drewN (HI.out.2.2.alloc HI.out.2.2.size _) nq)
        · obtain ⟨ra, rb⟩ := ne_facts q2
          by_cases q3 : c.src = p.src
          · obtain ⟨sa, sb⟩ := eq_facts q3
            have Q1 := hide q1
            have Q2 := hide q2
            have Q3 := hide q3
            clear q1 q2 q3
            cases hf : f with
            | none =>
              subst hf
              go_wp2_with fail
              go_quiet (fail)
              go_wp2_with fail
              go_roundw
              case rel => exact ⟨i + 1, some i, by omega, by go_num, rfl, HI.out.hit HD.out (by unfold Pl.Col.is; simp [Q1.out, Q2.out, Q3.out]) nq⟩
              case measure => simp [intOf]; omega
            | some j =>
              subst hf
              have hj : 0 ≤ fI (some j) := by simp [fI]
              have HN := hide (HI.out.twice HD.out (by unfold Pl.Col.is; simp [Q1.out, Q2.out, Q3.out]))
              go_wp2_with fail
              go_quiet (fail)
              go_wp2_with fail
              exact HBad.out HN.out _ (below_drewN (HI.out.2.2.alloc HI.out.2.2.size _) nq)
          · obtain ⟨sa, sb⟩ := ne_facts q3
            have Q1 := hide q1
            have Q2 := hide q2
            have Q3 := hide q3
            clear q1 q2 q3
            go_wp2_with fail
            go_quiet (fail)
            go_wp2_with fail
            go_roundw
            case rel => exact ⟨i + 1, f, by omega, by go_num, rfl, HI.out.next HD.out (by unfold Pl.Col.is; simp [Q1.out, Q2.out, Q3.out]) nq⟩
            case measure => simp [intOf]; omega
      · obtain ⟨qa, qb⟩ := ne_facts q1
        have Q1 := hide q1
        clear q1
        go_wp2_with fail
        go_quiet (fail)
        go_wp2_with fail
        go_roundw
        case rel => exact ⟨i + 1, f, by omega, by go_num, rfl, HI.out.next HD.out (by unfold Pl.Col.is; simp [Q1.out]) nq⟩
        case measure => simp [intOf]; omega
    · have hfin : f = Pl.colAt cols p.src p.name := by
        have := HI.out.1
        rw [List.drop_eq_nil_of_le (by omega)] at this
        exact this
      cases hf : f with
      | none =>
        subst hf
        have HN := hide hfin.symm
        clear hfin
        have hj : fI none < 0 := by simp [fI]
        go_wp2_with fail
        exact HBad.out HN.out _ HI.out.2.2
      | some j =>
        subst hf
        have HN := hide hfin.symm
        clear hfin
        have hj : ¬ fI (some j) < 0 := by simp [fI]
        have hjl : j < cols.length := by have := HI.out.2.1 j rfl; omega
        have HI2 := hide (HI.out.2.2)
        have hcj : cols[j]? = some cols[j] := List.getElem?_eq_getElem hjl
        have HTy : Hid (Pl.typeAt cols j = cols[j].type) := by unfold Hid Pl.typeAt; rw [hcj]
        generalize cols[j] = c at *
        obtain ⟨g, cap, he, hg, _, _, _⟩ := HCV.out.col hcj
        cases he
        have HEm := hide (unhide HE wr _ j (HC.out.below HI2.out))
        unfold insV at HEm
        simp only [Pl.nul] at HEm
        simp only [fI] at hj ⊢
        go_wp2_with fail
        refine (unhide HEm).mono ?_
        rintro e w2 ⟨rfl, hc2, hk2⟩
        have hK : KP P wr w2 := hk2.mono (fun k hk => .inl hk)
        have HC2 := hide (hc2.back HC.out.2.1)
        have HK2 := hide ((KP.below HI2.out (fun k hk => (HC.out.1 k hk).1)).trans hK)
        obtain ⟨cv2, sv2, hx2, hcv2⟩ : ∃ cv sv, w2.heap[cb]? = some (.cells #[cv, sv] 362) ∧ RowsW w2 cb 3 colC cols cv := by
          obtain ⟨_, _, _, _, _, cv, sv, h5, h6, _⟩ := HC2.out; exact ⟨cv, sv, h5, h6⟩
        obtain ⟨g2, cap2, rfl, hg2, _, _, f2⟩ := hcv2.col hcj
        have x0 := blk_cell hx2 0
        simp at x0
        have hcb2 : cb < w2.heap.size := lt_of_blk hx2
        have hg2z : g2 < w2.heap.size := by omega
        clear hc2 hk2 hK hx2 hcv2
        go_wp2_with fail
        refine HPost.out (.ok c.type) _ _ (by rw [HT.out, HN.out, ← HTy.out]) rfl HK2.out ⟨_, HC2.out, by simp, fun ty _ => ?_⟩
        have : Pl.idx cols p = j := by unfold Pl.idx; rw [HN.out]; rfl
        rw [this]
        rfl
end Go.Proofs.YtojdpjpldokjmaaGreatDoor
/- The code's compiler, whole: a value's program and type. -/
namespace Go.Proofs.YtojdpjpldokjmaaGreatDoor
open Go.RowKit Go.Deep
set_option linter.unusedSimpArgs false
set_option linter.unusedVariables false

set_option maxHeartbeats 2000000 in
set_option maxRecDepth 100000 in
theorem cLitS {a1 a2 : Nat} {p : Pl.Pay} {l r : Pl.T} (h0 : p.op = 0) : ValS 251 (.node a1 a2 p l r) := by
  intro cols code cb P w v hcl hc ht hl
  obtain ⟨n, vl, vr, rfl, hn, hb, hL, hR⟩ := ht
  have hcb := hc.lt
  have hnz : n < w.heap.size := by omega
  have HP := hide hc.2.1
  have HB := hide hb
  have c0 := blk_cell hb 0
  have c1 := blk_cell hb 1
  have c2 := blk_cell hb 2
  have c3 := blk_cell hb 3
  simp at c0 c1 c2 c3
  rw [h0] at c0
  have HT : Hid (Pl.tc cols (.node a1 a2 p l r) = .ok p.kind) := by unfold Hid; rw [Pl.tc, if_pos h0]
  have HG : Hid (Pl.gen cols code.length (.node a1 a2 p l r) = [⟨0, Pl.litOf p, 0⟩]) := by unfold Hid; rw [Pl.gen, if_pos h0]
  have HE := hide (emitS ⟨0, Pl.litOf p, 0⟩ cols code cb P w hc (by rw [Pl.sz] at hl; omega))
  unfold insV Pl.litOf at HE
  clear hc hb hL hR
  unfold PostCV
  rw [HT.out]
  simp only [outI]
  go_enter Tryz.func251, Tryz.ntmps251
  go_wp2_with fail
  refine (unhide HE).mono ?_
  rintro e w1 ⟨rfl, hc1, hk1⟩
  have HC1 := hide hc1
  have HK1 := hide hk1
  have hb1 := hk1.blk (HP.out n hn) HB.out
  have d1 := blk_cell hb1 1
  simp at d1
  have hz1 := lt_of_blk hb1
  clear hc1 hk1 hb1
  go_wp2_with fail
  exact bodyPost_ret (by simp [results, Tryz.results251, go_sem]) rfl ⟨rfl, HK1.out, _, HC1.out, by rw [Pl.sz]; simp; omega, fun ty h => by rw [HG.out]; rfl⟩
/-- A value by another function. -/
theorem postCV_form {w : World} {cb : Nat} {P : Nat → Prop} {cols : List Pl.Col} {code : List Pl.Ins} {t : Pl.T} : ∃ a b : Int, ∀ e w', PostCV w cb P cols code t e w' ↔ e = .returned (.tuple #[.int .i64 a, .int .i64 b]) ∧ PostCV w cb P cols code t (.returned (.tuple #[.int .i64 a, .int .i64 b])) w' := by
  obtain ⟨a, b, h⟩ := outI_form (Pl.tc cols t)
  refine ⟨a, b, fun e w' => ⟨fun hp => ?_, fun hp => ?_⟩⟩
  · have he := hp.1
    rw [h] at he
    subst he
    exact ⟨rfl, hp⟩
  · rw [hp.1]; exact hp.2
set_option maxHeartbeats 4000000 in
set_option maxRecDepth 100000 in
theorem cValueS : ∀ {t : Pl.T}, Pl.Wf t → ValS 251 t
  | .nil, hw => absurd hw id
  | .node a1 a2 p l r, hw => by
    obtain ⟨h18, _, hwr, hwl⟩ := hw
    by_cases h0 : p.op = 0
    · exact cLitS h0
    intro cols code cb P w v hcl hc ht hl
    obtain ⟨n, hvn, hb⟩ : ∃ n, v = .pointer (some ⟨n, 0, none⟩) ∧ n < cb ∧ w.cell? ⟨n, 0, none⟩ = some (.int .i64 p.op) := by
      obtain ⟨n, vl, vr, rfl, hn, hb, _⟩ := ht
      exact ⟨n, rfl, hn, by have := blk_cell hb 0; simp at this; exact this⟩
    obtain ⟨hn, c0⟩ := hb
    have hcb := hc.lt
    have hnz : n < w.heap.size := by omega
    obtain ⟨xa, xb, hform⟩ := postCV_form (w := w) (cb := cb) (P := P) (cols := cols) (code := code) (t := .node a1 a2 p l r)
    by_cases h1 : p.op = 1
    · have HX := hide (cNameS (a1 := a1) (a2 := a2) (l := l) (r := r) h1 cols code cb P w v hcl hc ht hl)
      subst hvn
      rw [h1] at c0
      generalize PostCV w cb P cols code (.node a1 a2 p l r) = Post at *
      have HF := hide hform
      clear hform hc ht
      go_enter Tryz.func251, Tryz.ntmps251
      go_wp2_with fail
      refine (unhide HX).mono ?_
      intro e w1 hp
      obtain ⟨rfl, hp1⟩ := (HF.out e w1).1 hp
      have HP1 := hide hp1
      clear hp hp1
      go_wp2_with fail
      exact HP1.out
    have hopI : ∀ k : Nat, p.op ≠ k → (((p.op : Nat) : Int) == ((k : Nat) : Int)) = false := fun k hk => by simp; omega
    have g0 := hopI 0 h0
    have g1 := hopI 1 h1
    have IHl := cValueS (hwl (by omega))
    by_cases h17 : p.op = 17
    · have IHr := cValueS (hwr (by omega))
      have HX := hide (cLogicS (a1 := a1) (a2 := a2) (p := p) (by omega) h18 IHl IHr cols code cb P w v hcl hc ht hl)
      rw [show p.op - 15 = 2 by omega] at HX
      subst hvn
      rw [h17] at c0
      generalize PostCV w cb P cols code (.node a1 a2 p l r) = Post at *
      have HF := hide hform
      clear hform hc ht hopI g0 g1 IHl IHr
      go_enter Tryz.func251, Tryz.ntmps251
      go_wp2_with fail
      refine (unhide HX).mono ?_
      intro e w1 hp
      obtain ⟨rfl, hp1⟩ := (HF.out e w1).1 hp
      have HP1 := hide hp1
      clear hp hp1
      go_wp2_with fail
      exact HP1.out
    by_cases h18' : p.op = 18
    · have IHr := cValueS (hwr (by omega))
      have HX := hide (cLogicS (a1 := a1) (a2 := a2) (p := p) (by omega) h18 IHl IHr cols code cb P w v hcl hc ht hl)
      rw [show p.op - 15 = 3 by omega] at HX
      subst hvn
      rw [h18'] at c0
      generalize PostCV w cb P cols code (.node a1 a2 p l r) = Post at *
      have HF := hide hform
      clear hform hc ht hopI g0 g1 IHl IHr
      go_enter Tryz.func251, Tryz.ntmps251
      go_wp2_with fail
      refine (unhide HX).mono ?_
      intro e w1 hp
      obtain ⟨rfl, hp1⟩ := (HF.out e w1).1 hp
      have HP1 := hide hp1
      clear hp hp1
      go_wp2_with fail
      exact HP1.out
    by_cases h5 : p.op ≤ 5
    · have HX := hide (cOneS (a1 := a1) (a2 := a2) (p := p) (r := r) (by omega) h5 IHl cols code cb P w v hcl hc ht hl)
      subst hvn
      generalize PostCV w cb P cols code (.node a1 a2 p l r) = Post at *
      have HF := hide hform
      have hop : p.op = 2 ∨ p.op = 3 ∨ p.op = 4 ∨ p.op = 5 := by omega
      clear hform hc ht hopI g0 g1 IHl
      rcases hop with hop | hop | hop | hop
      all_goals
        rw [hop] at c0
        go_enter Tryz.func251, Tryz.ntmps251
        go_wp2_with fail
        refine (unhide HX).mono ?_
        intro e w1 hp
        obtain ⟨rfl, hp1⟩ := (HF.out e w1).1 hp
        have HP1 := hide hp1
        clear hp hp1
        go_wp2_with fail
        exact HP1.out
    · have IHr := cValueS (hwr (by omega))
      have HX := hide (cTwoS (a1 := a1) (a2 := a2) (p := p) (by omega) (by omega) IHl IHr cols code cb P w v hcl hc ht hl)
      have g17 := hopI 17 h17
      have g18 := hopI 18 h18'
      have g2 := hopI 2 (by omega)
      have g3 := hopI 3 (by omega)
      have g4 := hopI 4 (by omega)
      have g5 := hopI 5 (by omega)
      subst hvn
      generalize PostCV w cb P cols code (.node a1 a2 p l r) = Post at *
      have HF := hide hform
      clear hform hc ht hopI IHl IHr
      go_enter Tryz.func251, Tryz.ntmps251
      go_wp2_with fail
      refine (unhide HX).mono ?_
      intro e w1 hp
      obtain ⟨rfl, hp1⟩ := (HF.out e w1).1 hp
      have HP1 := hide hp1
      clear hp hp1
      go_wp2_with fail
      exact HP1.out
end Go.Proofs.YtojdpjpldokjmaaGreatDoor
/- The code's Compile and CompileAs. -/
namespace Go.Proofs.YtojdpjpldokjmaaGreatDoor
open Go.RowKit Go.Deep
set_option linter.unusedSimpArgs false
set_option linter.unusedVariables false

theorem flat_at {α : Type} (f : α → List Value) (n : Nat) (hf : ∀ x, (f x).length = n) : ∀ (xs : List α) (i j : Nat) (x : α) (u : Value), xs[i]? = some x → (f x)[j]? = some u → (xs.flatMap f)[i * n + j]? = some u
  | [], i, j, x, u, h, _ => by simp at h
  | y :: ys, i, j, x, u, h, hu => by
    rw [List.flatMap_cons]
    cases i with
    | zero =>
      simp at h; subst h
      have : j < (f y).length := by
        rcases Nat.lt_or_ge j (f y).length with h | h
        · exact h
        · rw [List.getElem?_eq_none h] at hu; cases hu
      rw [Nat.zero_mul, Nat.zero_add, List.getElem?_append_left this]; exact hu
    | succ i =>
      simp at h
      have := flat_at f n hf ys i j x u h hu
      rw [List.getElem?_append_right (by rw [hf, Nat.succ_mul]; omega), hf]
      rw [show (i + 1) * n + j - n = i * n + j by rw [Nat.succ_mul]; omega]
      exact this
/-- One's own row, as a row in memory. -/
theorem own_rows {α : Type} {w : World} {base n hi : Nat} {e : TypeId} {f : α → List Value} (hf : ∀ x, (f x).length = n) {xs : List α} {v : Value} (h : w.ownsRow base e n v xs.length (xs.flatMap f)) (hh : w.heap.size ≤ hi) : RowsW w hi n f xs v := by
  rcases h.2 with ⟨rfl, h0⟩ | ⟨g, cap, cur, rfl, hb, hg, hc, hm, hs, ht⟩
  · exact ⟨none, 0, by rw [h0], fun hn => absurd (List.length_eq_zero_iff.1 h0) hn⟩
  · refine ⟨_, cap, rfl, fun hn => ⟨g, rfl, by have := lt_of_blk hg; omega, fun i x hx j u hu => ?_⟩⟩
    have h1 := flat_at f n hf xs i j x u hx hu
    rw [← ht] at h1
    have h2 : cur[i * n + j]? = some u := by
      rw [List.getElem?_take] at h1
      split at h1
      · simpa using h1
      · cases h1
    rw [blk_cell hg]; exact h2
/-- A row of things of n cells each, in a block of Q's. -/
def RowsP {α : Type} (w : World) (Q : Nat → Prop) (n : Nat) (f : α → List Value) (xs : List α) (v : Value) : Prop :=
  ∃ a cap, v = .slice a xs.length cap ∧ (xs ≠ [] → ∃ g, a = some ⟨g, 0, none⟩ ∧ Q g ∧ ∀ i c, xs[i]? = some c → ∀ j u, (f c)[j]? = some u → w.cell? ⟨g, i * n + j, none⟩ = some u)
theorem RowsP.keep {α : Type} {w w' : World} {Q : Nat → Prop} {n : Nat} {f : α → List Value} {xs : List α} {v : Value} (h : RowsP w Q n f xs v) (hk : ∀ k, Q k → w'.heap[k]? = w.heap[k]?) : RowsP w' Q n f xs v := by
  obtain ⟨a, cap, rfl, h2⟩ := h
  refine ⟨a, cap, rfl, fun hn => ?_⟩
  obtain ⟨g, rfl, hg, h3⟩ := h2 hn
  exact ⟨g, rfl, hg, fun i c hc j u hu => (World.cell?_of_block (hk g hg)).trans (h3 i c hc j u hu)⟩
theorem RowsP.mono {α : Type} {w : World} {Q R : Nat → Prop} {n : Nat} {f : α → List Value} {xs : List α} {v : Value} (h : RowsP w Q n f xs v) (hk : ∀ k, Q k → R k) : RowsP w R n f xs v := by
  obtain ⟨a, cap, rfl, h2⟩ := h
  refine ⟨a, cap, rfl, fun hn => ?_⟩
  obtain ⟨g, rfl, hg, h3⟩ := h2 hn
  exact ⟨g, rfl, hk g hg, h3⟩
theorem RowsP.rows {α : Type} {w : World} {Q : Nat → Prop} {hi n : Nat} {f : α → List Value} {xs : List α} {v : Value} (h : RowsP w Q n f xs v) (hk : ∀ k, Q k → k < hi) : RowsW w hi n f xs v := h.mono hk
theorem own_rowsP {α : Type} {w : World} {base n : Nat} {e : TypeId} {f : α → List Value} (hf : ∀ x, (f x).length = n) {xs : List α} {v : Value} (h : w.ownsRow base e n v xs.length (xs.flatMap f)) : RowsP w (fun k => base ≤ k ∧ k < w.heap.size ∧ v.ownBlock = some k) n f xs v := by
  rcases h.2 with ⟨rfl, h0⟩ | ⟨g, cap, cur, rfl, hb, hg, hc, hm, hs, ht⟩
  · exact ⟨none, 0, by rw [h0], fun hn => absurd (List.length_eq_zero_iff.1 h0) hn⟩
  · refine ⟨_, cap, rfl, fun hn => ⟨g, rfl, ⟨hb, lt_of_blk hg, rfl⟩, fun i x hx j u hu => ?_⟩⟩
    have h1 := flat_at f n hf xs i j x u hx hu
    rw [← ht] at h1
    have h2 : cur[i * n + j]? = some u := by
      rw [List.getElem?_take] at h1
      split at h1
      · simpa using h1
      · cases h1
    rw [blk_cell hg]; exact h2
theorem CmpW.prog {w : World} {cb : Nat} {P : Nat → Prop} {cols : List Pl.Col} {code : List Pl.Ins} (h : CmpW w cb P cols code) : ∃ cv a c, w.heap[cb]? = some (.cells #[cv, .slice a code.length c] 362) ∧ RowsP w (fun k => cb + 1 ≤ k ∧ k < w.heap.size) 5 insC code (.slice a code.length c) := by
  obtain ⟨_, _, _, _, _, cv, v, h5, _, h6, _⟩ := h
  have hp : RowsP w (fun k => cb + 1 ≤ k ∧ k < w.heap.size) 5 insC code v := (own_rowsP (f := insC) (fun x => rfl) h6).mono (fun k hk => ⟨hk.1, hk.2.1⟩)
  rcases h6.2 with ⟨rfl, h0⟩ | ⟨g, cap, cur, rfl, _⟩
  · exact ⟨cv, none, 0, by rw [h0]; exact h5, by rw [h0]; exact hp⟩
  · exact ⟨cv, _, _, h5, hp⟩
theorem RowsW.more {α : Type} {w : World} {hi hi' n : Nat} {f : α → List Value} {xs : List α} {v : Value} (h : RowsW w hi n f xs v) (hh : hi ≤ hi') : RowsW w hi' n f xs v := by
  obtain ⟨a, cap, rfl, h2⟩ := h
  refine ⟨a, cap, rfl, fun hn => ?_⟩
  obtain ⟨g, rfl, hg, h3⟩ := h2 hn
  exact ⟨g, rfl, by omega, h3⟩
/-- The instructions of a value, in memory. -/
def ProgW (w : World) (hi : Nat) (cols : List Pl.Col) (t : Pl.T) (cv : Value) : Prop := RowsW w hi 5 insC (Pl.gen cols 0 t) cv
/-- Blocks from a up to b. -/
def newP (a b : Nat) : Nat → Prop := fun k => a ≤ k ∧ k < b
def ProgP (w : World) (Q : Nat → Prop) (cols : List Pl.Col) (t : Pl.T) (cv : Value) : Prop := RowsP w Q 5 insC (Pl.gen cols 0 t) cv
theorem ProgP.prog {w : World} {Q : Nat → Prop} {hi : Nat} {cols : List Pl.Col} {t : Pl.T} {cv : Value} (h : ProgP w Q cols t cv) (hk : ∀ k, Q k → k < hi) : ProgW w hi cols t cv := RowsP.rows h hk
theorem ProgP.slice {w : World} {Q : Nat → Prop} {cols : List Pl.Col} {t : Pl.T} {cv : Value} (h : ProgP w Q cols t cv) : ∃ a n c, cv = .slice a n c := by
  obtain ⟨a, c, h, _⟩ := h; exact ⟨a, _, c, h⟩
/-- What must be so ahead of a value's compiling. -/
structure CompIn (w : World) (t : Pl.T) (v : Value) (cols : List Pl.Col) (cv : Value) : Prop where
  rules : RulesAt w
  glob : 9 < w.heap.size
  tree : TrW w w.heap.size t v
  ok : Pl.okT t
  colv : RowsW w w.heap.size 3 colC cols cv
  len : cols.length ≤ 1000
theorem CompIn.below {w w' : World} {t : Pl.T} {v : Value} {cols : List Pl.Col} {cv : Value} (h : CompIn w t v cols cv) (hb : Below w.heap.size w w') : CompIn w' t v cols cv :=
  ⟨h.rules.keep (hb.block _ h.glob), Nat.lt_of_lt_of_le h.glob hb.size, (h.tree.keep (fun k hk => hb.block k hk)).more hb.size, h.ok, (h.colv.keep (fun k hk => hb.block k hk)).more hb.size, h.len⟩
/-- What Compile leaves. -/
def PostComp (w : World) (t : Pl.T) (cols : List Pl.Col) (e : Ending) (w' : World) : Prop := Below w.heap.size w w' ∧
  ((∃ er, Pl.tc cols t = .error er ∧ e = .returned (.tuple #[.agg #[.slice none 0 0], .int .i64 0, .int .i64 (er : Nat)])) ∨
   (∃ ty cv, Pl.tc cols t = .ok ty ∧ e = .returned (.tuple #[.agg #[cv], .int .i64 ty, .int .i64 0]) ∧ ProgP w' (newP w.heap.size w'.heap.size) cols t cv))

set_option maxHeartbeats 1000000 in
set_option maxRecDepth 100000 in
theorem compileM (t : Pl.T) (cols : List Pl.Col) (v cv : Value) (w : World) (h : CompIn w t v cols cv) : Calls Tryz.prog 216 #[v, cv] w (PostComp w t cols) := by
  obtain ⟨h1, h2, h3, h4, h5, h6⟩ := h
  obtain ⟨ca, cc, rfl⟩ : ∃ a c, cv = .slice a cols.length c := by obtain ⟨a, c, h, _⟩ := h5; exact ⟨a, c, h⟩
  have hB : Below w.heap.size w ((w.alloc (.cells #[.slice none 0 0] 204)).alloc (.cells #[.slice ca cols.length cc, .slice none 0 0] 362)) := ((Below.refl w.heap.size w).alloc (Nat.le_refl _) _).alloc (by simp) _
  have hC : CmpW ((w.alloc (.cells #[.slice none 0 0] 204)).alloc (.cells #[.slice ca cols.length cc, .slice none 0 0] 362)) (w.heap.size + 1) (fun k => k < w.heap.size + 1) cols [] := by
    refine ⟨fun k hk => ⟨by simp; omega, by omega⟩, fun k hk => hk, by simp, by omega, h1.keep (hB.block _ h2), _, .slice none 0 0, blk_new' _ _ _ (by simp), ?_, World.ownsRow_nil _ _ _ _, fun k hk => by cases hk⟩
    exact (h5.keep (fun k hk => hB.block k hk)).more (by omega)
  have HV := hide (cValueS h4.1 cols [] (w.heap.size + 1) (fun k => k < w.heap.size + 1) _ v h6 hC ((h3.keep (fun k hk => hB.block k hk)).more (by omega)) (by have := h4.2.2; simp; omega))
  have hr : ((w.alloc (.cells #[.slice none 0 0] 204)).alloc (.cells #[.slice ca cols.length cc, .slice none 0 0] 362)).heap[w.heap.size]? = some (.cells #[.slice none 0 0] 204) := blk_alloc (blk_new _ _) _
  have HR := hide hr
  have HB := hide hB
  clear h1 h2 h3 h4 h5 h6 hC hr hB
  obtain ⟨xa, xb, hxy⟩ := outI_form (Pl.tc cols t)
  unfold PostCV at HV
  rw [hxy] at HV
  go_enter Tryz.func216, Tryz.ntmps216
  go_wp2_with fail
  refine (unhide HV).mono ?_
  rintro e w1 ⟨rfl, hk1, code, hc1, hlen, hcode⟩
  have HK1 := hide hk1
  have HC1 := hide hc1
  have HCo := hide hcode
  have hr1 := hk1.blk (by omega) HR.out
  have r0 := blk_cell hr1 0
  have rf := blk_frozen hr1 0
  simp at r0
  have hz := lt_of_blk hr1
  obtain ⟨cv1, sa, sc, hx1, hpr⟩ := hc1.prog
  have HPr := hide hpr
  have HK2 : Hid (∀ u, Below w.heap.size w (w1.setCell ⟨w.heap.size, 0, none⟩ u)) := fun u => by
    have hk : Below w.heap.size _ w1 := ⟨hk1.os, hk1.tape, hk1.output, hk1.size, fun k hk => hk1.block k (by omega)⟩
    exact (HB.out.trans hk).setCell (Nat.le_refl _) _
  clear hpr
  have x1 := blk_cell hx1 1
  simp at x1
  have hy1 := lt_of_blk hx1
  have HR1 := hide hr1
  clear hk1 hc1 hcode hr1 HV HR hx1
  cases htc : Pl.tc cols t with
  | error er =>
    rw [htc] at hxy
    simp [outI] at hxy
    obtain ⟨rfl, rfl⟩ := hxy
    have her : ((er : Int) != 0) = true := by have := Pl.tc_err htc; simp; omega
    go_wp2_with fail
    refine bodyPost_ret (v := .tuple #[.agg #[.slice none 0 0], .int .i64 0, .int .i64 (er : Nat)]) ?_ rfl ⟨HK2.out _, .inl ⟨er, htc, rfl⟩⟩
    have r1 := blk_cell (blk_set HR1.out 0 (.slice none 0 0)) 0
    simp at r1
    simp [results, Tryz.results216, go_sem, r1]
  | ok ty =>
    rw [htc] at hxy
    simp [outI] at hxy
    obtain ⟨rfl, rfl⟩ := hxy
    go_wp2_with fail
    refine bodyPost_ret (v := .tuple #[.agg #[.slice sa code.length sc], .int .i64 ty, .int .i64 0]) ?_ rfl ⟨HK2.out _, .inr ⟨ty, _, htc, rfl, ?_⟩⟩
    · have r1 := blk_cell (blk_set HR1.out 0 (.slice sa code.length sc)) 0
      simp at r1
      simp [results, Tryz.results216, go_sem, r1]
    · have h0 := HCo.out ty htc
      simp at h0
      unfold ProgP
      rw [← h0]
      exact (HPr.out.keep (fun k hk => Below.heap_setCell _ _ _ _ (show k ≠ w.heap.size by omega))).mono (fun k hk => ⟨by omega, by rw [size_set]; exact hk.2⟩)
/-- What CompileAs leaves. -/
def PostCompAs (w : World) (t : Pl.T) (cols : List Pl.Col) (want : Int) (e : Ending) (w' : World) : Prop := Below w.heap.size w w' ∧
  ((∃ er, Pl.tcAs cols t want = some er ∧ e = .returned (.tuple #[.agg #[.slice none 0 0], .int .i64 (er : Nat)])) ∨
   (∃ cv, Pl.tcAs cols t want = none ∧ e = .returned (.tuple #[.agg #[cv], .int .i64 0]) ∧ ProgP w' (newP w.heap.size w'.heap.size) cols t cv))
theorem ProgW.slice {w : World} {hi : Nat} {cols : List Pl.Col} {t : Pl.T} {cv : Value} (h : ProgW w hi cols t cv) : ∃ a n c, cv = .slice a n c := by
  obtain ⟨a, c, h, _⟩ := h; exact ⟨a, _, c, h⟩
theorem ProgW.keep {w w' : World} {hi : Nat} {cols : List Pl.Col} {t : Pl.T} {cv : Value} (h : ProgW w hi cols t cv) (hk : ∀ k, k < hi → w'.heap[k]? = w.heap[k]?) : ProgW w' hi cols t cv := RowsW.keep h hk
theorem ProgW.below {w w' : World} {cols : List Pl.Col} {t : Pl.T} {cv : Value} (h : ProgW w w.heap.size cols t cv) (hb : Below w.heap.size w w') : ProgW w' w'.heap.size cols t cv := (RowsW.keep h (fun k hk => hb.block k hk)).more hb.size

set_option maxHeartbeats 1000000 in
set_option maxRecDepth 100000 in
theorem compileAsM (t : Pl.T) (cols : List Pl.Col) (want : Int) (v cv : Value) (w : World) (h : CompIn w t v cols cv) : Calls Tryz.prog 161 #[v, cv, .int .i64 want] w (PostCompAs w t cols want) := by
  have hB : Below w.heap.size w (w.alloc (.cells #[.slice none 0 0] 204)) := (Below.refl w.heap.size w).alloc (Nat.le_refl _) _
  have HV := hide (compileM t cols v cv _ (h.below hB))
  have HR : Hid ((w.alloc (.cells #[.slice none 0 0] 204)).heap[w.heap.size]? = some (.cells #[.slice none 0 0] 204)) := blk_new _ _
  have HB := hide hB
  have HL := hide alikeM
  clear h hB
  go_enter Tryz.func161, Tryz.ntmps161
  go_wp2_with fail
  refine (unhide HV).mono ?_
  rintro e w1 ⟨hb1, hp1⟩
  have HB1 := hide (HB.out.trans (hb1.mono (by simp)))
  have hr1 := below_blk hb1 (by simp) HR.out
  have HR1 := hide hr1
  have hz := lt_of_blk hr1
  have rf := blk_frozen hr1 0
  have r0 := blk_cell hr1 0
  simp at r0
  have HSet : Hid (∀ (o : Obj) u, Below w.heap.size w ((w1.setCell ⟨w.heap.size, 0, none⟩ u).alloc o)) := fun o u => ((HB1.out.setCell (p := ⟨w.heap.size, 0, none⟩) (Nat.le_refl _) u).alloc (by rw [size_set]; exact HB1.out.size) o)
  have HR2 : Hid (∀ (o : Obj) u, ((w1.setCell ⟨w.heap.size, 0, none⟩ u).alloc o).heap[w.heap.size]? = some (.cells #[u] 204)) := fun o u => by
    have := blk_alloc (blk_set HR1.out 0 u) o
    simpa using this
  rcases hp1 with ⟨er, htc, rfl⟩ | ⟨ty, cv1, htc, rfl, hp⟩
  · have her : ((er : Int) != 0) = true := by have := Pl.tc_err htc; simp; omega
    have her2 : ((er : Int) == 0) = false := by have := Pl.tc_err htc; simp; omega
    have HX : Hid (Pl.tcAs cols t want = some er) := by unfold Hid Pl.tcAs; rw [htc]
    clear hb1 hr1 HV htc
    go_wp2_with fail
    refine bodyPost_ret (v := .tuple #[.agg #[.slice none 0 0], .int .i64 (er : Nat)]) ?_ rfl ⟨HSet.out _ _, .inl ⟨er, HX.out, rfl⟩⟩
    have r1 := blk_cell (HR2.out (.cells #[.slice none 0 0] 204) (.slice none 0 0)) 0
    simp at r1
    simp [results, Tryz.results161, go_sem, r1]
  · obtain ⟨sa, sn, sc, rfl⟩ := hp.slice
    have HPr := hide hp
    clear hb1 hr1 HV hp
    cases hal : Pl.alike ty want with
    | false =>
      have HX : Hid (Pl.tcAs cols t want = some 3) := by unfold Hid Pl.tcAs; rw [htc]; simp [hal]
      clear htc
      go_wp2_with (go_at_call 217; refine (unhide HL _ _ _).mono ?_; rintro e w2 ⟨rfl, rfl⟩)
      refine bodyPost_ret (v := .tuple #[.agg #[.slice none 0 0], .int .i64 3]) ?_ rfl ⟨HSet.out _ _, .inl ⟨3, HX.out, rfl⟩⟩
      have r1 := blk_cell (HR2.out (.cells #[.slice sa sn sc] 204) (.slice none 0 0)) 0
      simp at r1
      simp [results, Tryz.results161, go_sem, r1]
    | true =>
      have HX : Hid (Pl.tcAs cols t want = none) := by unfold Hid Pl.tcAs; rw [htc]; simp [hal]
      clear htc
      go_wp2_with (go_at_call 217; refine (unhide HL _ _ _).mono ?_; rintro e w2 ⟨rfl, rfl⟩)
      refine bodyPost_ret (v := .tuple #[.agg #[.slice sa sn sc], .int .i64 0]) ?_ rfl ⟨HSet.out _ _, .inr ⟨_, HX.out, rfl, ?_⟩⟩
      · have r1 := blk_cell (HR2.out (.cells #[.slice sa sn sc] 204) (.slice sa sn sc)) 0
        simp at r1
        simp [results, Tryz.results161, go_sem, r1]
      · refine (HPr.out.keep (fun k hk => ?_)).mono (fun k hk => ⟨by have := hk.1; simp at this; omega, by have := hk.2; simp [size_set]; omega⟩)
        have h2 := hk.2
        rw [Below.heap_alloc _ _ _ (by rw [size_set]; omega), Below.heap_setCell _ _ _ _ (show k ≠ w.heap.size by have := hk.1; simp at this; omega)]
end Go.Proofs.YtojdpjpldokjmaaGreatDoor
