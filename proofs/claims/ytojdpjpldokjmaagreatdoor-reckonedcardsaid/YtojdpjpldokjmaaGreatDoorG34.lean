/- The keeps' own: a new database; which texts may be done. -/
import Derived.Test.YtojdpjpldokjmaaGreatDoorG09
import Derived.Test.YtojdpjpldokjmaaGreatDoorG32
import Derived.Test.YtojdpjpldokjmaaGreatDoorG33
namespace Go.Proofs.YtojdpjpldokjmaaGreatDoor
open Go.RowKit Go.Deep
set_option linter.unusedSimpArgs false
set_option linter.unusedVariables false

/-- The globals that the statements lean on. -/
structure Globs (w : World) : Prop where
  spell : SpellAt w
  err : ErrAt w
  rules : RulesAt w
  rlt : 9 < w.heap.size
theorem okDB_nil : Pl.okDB [] := ⟨by simp, by simp⟩
abbrev dbO : Obj := .cells #[.slice none 0 0] 77
def oneB (b : Nat) : Nat → Prop := fun k => k = b
theorem Live.new {w : World} (h : Globs w) : Live (w.alloc dbO) (oneB w.heap.size) w.heap.size [] [] := by
  have hb : Below w.heap.size w (w.alloc dbO) := (Below.refl _ _).alloc (Nat.le_refl _) _
  refine ⟨⟨⟨fun k hk => ?_, rfl, ⟨.slice none 0 0, blk_new _ _, own_nil, fun k hk => (by cases hk)⟩, rfl, fun i l t hl => (by simp at hl), fun i j l m _ hl => (by simp at hl), okDB_nil⟩, h.rules.keep (hb.block _ h.rlt), fun e => ?_, ?_⟩, h.spell.below hb, h.err.below hb, fun e => ?_, fun e => ?_⟩
  · cases hk; simp
  · have e' : 9 = w.heap.size := e
    have := h.rlt
    omega
  · have := h.rlt
    simp; omega
  · have e' : 1 = w.heap.size := e
    have := h.spell.lt
    omega
  · have e' : 8 = w.heap.size := e
    have := h.err.lt
    omega
set_option maxHeartbeats 1000000 in
set_option maxRecDepth 100000 in
theorem newM (w : World) : Calls Tryz.prog 14 #[] w fun e w' => e = .returned (.pointer (some ⟨w.heap.size, 0, none⟩)) ∧ w' = w.alloc dbO := by
  go_enter Tryz.func14, Tryz.ntmps14
  go_wp2_with fail
  go_ret
  exact ⟨rfl, rfl⟩
theorem ExecOk.of {D : Pl.DB} {t : List UInt8} {s : Pl.St} (hp : Pl.pParse t = some s) (h : DoOk D s) : ExecOk D t := fun s' hs' => by rw [hp] at hs'; cases hs'; exact h
theorem execOk_kind {D : Pl.DB} {t : List UInt8} {k : Int} (h : (Pl.pParse t).map (·.kind) = some k) (h1 : k ≠ 117) (h2 : k ≠ 115) : ExecOk D t := fun s hs => by
  rw [hs] at h
  simp at h
  exact ⟨fun e => absurd (h.symm.trans e) h1, fun e => absurd (h.symm.trans e) h2⟩
theorem execOk_sel1 (HS : StableM 19) {D : Pl.DB} {t : List UInt8} {s : Pl.St} (hp : Pl.pParse t = some s) (hk : s.kind ≠ 117) (hd : s.distinct = false) (hl : s.sources.length = 1) (hm : ∀ t ∈ D, t.rows.length ≤ 19) : ExecOk D t :=
  ExecOk.of hp ⟨fun e => absurd e hk, fun _ => ⟨19, HS, by omega, fun is rows hj => by
    have := Pl.joinsAll_len hm (by omega) hj
    rw [hl] at this
    simpa using this, fun e => (by rw [hd] at e; cases e)⟩⟩
/-- An answer kept in a box. -/
structure Bx (w : World) (M : Nat → Prop) (k : Nat) (rows : List (List Pl.V)) (rv : Value) (c : Int) : Prop where
  blk : w.heap[k]? = some (.cells #[rv, .int .i64 c] 36)
  not : ¬ M k
  got : Got w M rows rv
theorem Bx.step {w w' : World} {M M' : Nat → Prop} {k : Nat} {rows : List (List Pl.V)} {rv : Value} {c : Int} (h : Bx w M k rows rv c) (hs : Stp w M w' M') : Bx w' M' k rows rv c := ⟨(hs.blk h.blk h.not).1, (hs.blk h.blk h.not).2, h.got.step hs⟩
theorem Bx.new {w : World} {M : Nat → Prop} {b : Nat} {lay : List Lay} {D : Pl.DB} {rows : List (List Pl.V)} {rv : Value} (h : Live w M b lay D) (hg : Got w M rows rv) (c : Int) : Bx (w.alloc (.cells #[rv, .int .i64 c] 36)) M w.heap.size rows rv c :=
  ⟨blk_new _ _, fun hm => by have := h.ex.db.lt _ hm; omega, got_box hg _⟩
theorem Bx.below {w w' : World} {M : Nat → Prop} {k : Nat} {rows : List (List Pl.V)} {rv : Value} {c : Int} (h : Bx w M k rows rv c) (hb : Below w.heap.size w w') : Bx w' M k rows rv c := h.step (Stp.below _ hb)
theorem Bx.cells {w : World} {M : Nat → Prop} {k : Nat} {rows : List (List Pl.V)} {rv : Value} {c : Int} (h : Bx w M k rows rv c) : k < w.heap.size ∧ w.cell? ⟨k, 0, none⟩ = some rv ∧ w.cell? ⟨k, 1, none⟩ = some (.int .i64 c) := by
  have h0 := blk_cell h.blk 0
  have h1 := blk_cell h.blk 1
  simp at h0 h1
  exact ⟨lt_of_blk h.blk, h0, h1⟩
/-- Two numbers in a row's text. -/
theorem rIns_str (a b : Int) : (((({ data := #[73, 78, 83, 69, 82, 84, 32, 73, 78, 84, 79, 32, 110, 32, 86, 65, 76, 85, 69, 83, 32, 40] } : ByteArray) ++ { data := (Pl.numP a).toArray }) ++ { data := #[44, 32] }) ++ { data := (Pl.numP b).toArray }) ++ { data := #[41] } = ⟨(Pl.rIns a b).toArray⟩ := by
  unfold Pl.rIns
  rw [show (#[73, 78, 83, 69, 82, 84, 32, 73, 78, 84, 79, 32, 110, 32, 86, 65, 76, 85, 69, 83, 32, 40] : Array UInt8) = [73, 78, 83, 69, 82, 84, 32, 73, 78, 84, 79, 32, 110, 32, 86, 65, 76, 85, 69, 83, 32, 40].toArray from rfl, show (#[44, 32] : Array UInt8) = [44, 32].toArray from rfl, show (#[41] : Array UInt8) = [41].toArray from rfl]
  rw [ByteArray.mk_append_mk, ByteArray.mk_append_mk, ByteArray.mk_append_mk, ByteArray.mk_append_mk]
  simp
end Go.Proofs.YtojdpjpldokjmaaGreatDoor
/- The keep Reckoned: the walk. -/
namespace Go.Proofs.YtojdpjpldokjmaaGreatDoor
open Go.RowKit Go.Deep
set_option linter.unusedSimpArgs false
set_option linter.unusedVariables false

theorem r_cols (rows : List (List Pl.V)) (h : rows.length ≤ 19) : ∀ t ∈ [Pl.rTab rows], t.rows.length ≤ 19 := fun t ht => by
  simp at ht; subst ht; exact h
theorem ok_create : ExecOk [] Pl.rCreate := execOk_kind (k := 99) (by kernel_rfl) (by decide) (by decide)
theorem rIns_text (a b : Int) : Pl.rIns a b = Pl.insText [110] ([Pl.numPc a, Pl.numPc b].map (·.x)) [] := by simp [Pl.rIns, Pl.insText, Pl.sepJoin, Pl.numPc]
theorem rIns_len {a b : Int} (ha : Pl.in64 a) (hb : Pl.in64 b) : (Pl.rIns a b).length ≤ 600 := by
  have h1 := Pl.numP_len ha
  have h2 := Pl.numP_len hb
  simp [Pl.rIns]; omega
theorem ok_insert {a b : Int} (ha : Pl.in64 a) (hb : Pl.in64 b) : ExecOk [Pl.rTab []] (Pl.rIns a b) := by
  have hp := Pl.ins_parse Pl.r_name (ps := [Pl.numPc a, Pl.numPc b]) (by intro p hp; simp at hp; rcases hp with rfl | rfl; exact Pl.numPc_ok ha; exact Pl.numPc_ok hb) (by simp) (tail := []) rfl (by rw [← rIns_text]; exact rIns_len ha hb)
  rw [rIns_text]
  exact execOk_kind (k := 105) (by rw [hp]; rfl) (by decide) (by decide)
theorem ok_r (HS : StableM 19) {a b : Int} {t : List UInt8} {s : Pl.St} (hp : Pl.pParse t = some s) (hk : s.kind ≠ 117) (hd : s.distinct = false) (hl : s.sources.length = 1) : ExecOk (Pl.rDb a b) t := execOk_sel1 HS hp hk hd hl (r_cols _ (by simp))
theorem str_rCreate : (⟨#[67, 82, 69, 65, 84, 69, 32, 84, 65, 66, 76, 69, 32, 110, 32, 40, 97, 32, 73, 78, 84, 44, 32, 98, 32, 73, 78, 84, 41]⟩ : ByteArray) = ⟨Pl.rCreate.toArray⟩ := rfl
/-- A database of one's own: what is below it stays. -/
theorem stp_new {w w1 w2 : World} {M0 M2 : Nat → Prop} {B : Nat} (h1 : Below B w w1) (hM : ∀ k, M0 k → B ≤ k) (h2 : Stp w1 M0 w2 M2) (hB : B ≤ w1.heap.size) : Below B w w2 :=
  h1.trans ⟨h2.keep.os, h2.keep.tape, h2.keep.output, h2.keep.size, fun k hk => h2.keep.block k ⟨by omega, fun hm => by have := hM k hm; omega⟩⟩

theorem ans_in {s : Int} (h : Pl.in64 s) : Pl.ans64 s = ⟨[[Pl.nV s]], 0, 0⟩ := by unfold Pl.ans64; rw [if_pos h]
theorem ans_out {s : Int} (h : ¬ Pl.in64 s) : Pl.ans64 s = Pl.no 4 := by unfold Pl.ans64; rw [if_neg h]
theorem fits_in {W : World} {M : Nat → Prop} {k : Nat} {rv : Value} {sa : Pl.Ans} {s : Int} (h : Pl.ans64 s = sa) (hx : Bx W M k sa.rows rv sa.count) (hs : Pl.in64 s) {sw : Int} (hw : sw = s) :
    Calls Tryz.prog 19 #[.agg #[rv, .int .i64 sa.count], .int .i64 (sa.err : Nat), .bool false, .int .i64 sw] W fun e w' => e = .returned (.bool true) ∧ Below W.heap.size W w' := by
  rw [ans_in hs] at h
  subst h
  exact fitsY hx.got 0 sw (by simp) (by simp) hw.symm
theorem fits_out {W : World} {M : Nat → Prop} {k : Nat} {rv : Value} {sa : Pl.Ans} {s : Int} (h : Pl.ans64 s = sa) (hx : Bx W M k sa.rows rv sa.count) (hs : ¬ Pl.in64 s) (sw : Int) :
    Calls Tryz.prog 19 #[.agg #[rv, .int .i64 sa.count], .int .i64 (sa.err : Nat), .bool true, .int .i64 sw] W fun e w' => e = .returned (.bool true) ∧ Below W.heap.size W w' := by
  rw [ans_out hs] at h
  subst h
  obtain ⟨a, c, rfl⟩ := hx.got.slice
  exact fitsG a _ c 0 sw
theorem sum_ways {a b sw : Int} (ha : Pl.in64 a) (hb : Pl.in64 b) (hw : wrap64 (a + b) = sw) : (((a < 0 ∧ b < 0 ∧ sw < 0) ∨ (a < 0 ∧ 0 ≤ b) ∨ (0 ≤ a ∧ b < 0) ∨ (0 ≤ a ∧ 0 ≤ b ∧ 0 ≤ sw)) ∧ Pl.in64 (a + b) ∧ sw = a + b) ∨ (((a < 0 ∧ b < 0 ∧ 0 ≤ sw) ∨ (0 ≤ a ∧ 0 ≤ b ∧ sw < 0)) ∧ ¬ Pl.in64 (a + b)) := by
  unfold Pl.in64 at *
  unfold wrap64 at hw
  omega
theorem diff_ways {a b sw : Int} (ha : Pl.in64 a) (hb : Pl.in64 b) (hw : wrap64 (a - b) = sw) : (((a < 0 ∧ b < 0) ∨ (a < 0 ∧ 0 ≤ b ∧ sw < 0) ∨ (0 ≤ a ∧ b < 0 ∧ 0 ≤ sw) ∨ (0 ≤ a ∧ 0 ≤ b)) ∧ Pl.in64 (a - b) ∧ sw = a - b) ∨ (((a < 0 ∧ 0 ≤ b ∧ 0 ≤ sw) ∨ (0 ≤ a ∧ b < 0 ∧ sw < 0)) ∧ ¬ Pl.in64 (a - b)) := by
  unfold Pl.in64 at *
  unfold wrap64 at hw
  omega
theorem one_at {W : World} {M : Nat → Prop} {k : Nat} {rv : Value} {sa : Pl.Ans} {r : List Pl.V} (h : sa.rows = [r]) (hx : Bx W M k sa.rows rv sa.count) (i : Nat) (hi : i < r.length) (hl : r.length ≤ 1000) :
    Calls Tryz.prog 20 #[.agg #[rv, .int .i64 sa.count], .int .i64 (i : Nat)] W fun e w' => e = .returned (.tuple #[.int .i64 (r.getD i Pl.nul).n, .bool true]) ∧ Below W.heap.size W w' := by
  rw [h] at hx
  exact oneY hx.got i sa.count hi hl
theorem tmod_range {a b : Int} (ha : Pl.in64 a) (hb : b ≠ 0) : Pl.in64 (Int.tmod a b) := by
  unfold Pl.in64 at *
  have h1 : (Int.tmod a b).natAbs ≤ a.natAbs := by rw [Int.natAbs_tmod]; exact Nat.mod_le _ _
  have h2 : a < 0 → Int.tmod a b ≤ 0 := fun h => by
    have := Int.tmod_nonneg b (show 0 ≤ -a by omega)
    rw [Int.neg_tmod] at this
    omega
  have h3 : 0 ≤ a → 0 ≤ Int.tmod a b := fun h => Int.tmod_nonneg b h
  omega
def lessN (a b : Int) : Int := if a < b then 1 else 0
theorem less_n (a b : Int) : (Pl.tru (decide (a < b))).n = lessN a b := by
  unfold Pl.tru lessN
  by_cases h : a < b <;> simp [h]
theorem quot_0 {a b : Int} (h : b = 0) : Pl.quotA a b = ⟨[], 0, 5⟩ ∧ Pl.prodA a b = ⟨[], 0, 5⟩ := by unfold Pl.quotA Pl.prodA; rw [if_pos h, if_pos h]; exact ⟨rfl, rfl⟩
theorem quot_1 {a b : Int} (h0 : ¬ b = 0) (h : a = -9223372036854775808 ∧ b = -1) : Pl.quotA a b = ⟨[], 0, 4⟩ ∧ Pl.prodA a b = ⟨[], 0, 4⟩ := by unfold Pl.quotA Pl.prodA; rw [if_neg h0, if_neg h0, if_pos h, if_pos h]; exact ⟨rfl, rfl⟩
theorem quot_2 {a b : Int} (h0 : ¬ b = 0) (h : ¬ (a = -9223372036854775808 ∧ b = -1)) : Pl.quotA a b = ⟨[[Pl.nV (Int.tdiv a b), Pl.nV (Int.tmod a b)]], 0, 0⟩ ∧ Pl.prodA a b = ⟨[[Pl.nV a]], 0, 0⟩ := by unfold Pl.quotA Pl.prodA; rw [if_neg h0, if_neg h0, if_neg h, if_neg h]; exact ⟨rfl, rfl⟩
set_option maxHeartbeats 8000000 in
set_option maxRecDepth 100000 in
theorem reckonedM (L : LexLib) (X : MachLib) (HS : StableM 19) (a b : Int) (ha : Pl.in64 a) (hb : Pl.in64 b) (w : World) (hg : Globs w) :
    Calls Tryz.prog 6 #[.int .i64 a, .int .i64 b] w fun e w' => e = .returned (.bool true) ∧ Below w.heap.size w w' := by
  have HG := hide hg
  have HA := hide ha
  have HB := hide hb
  have HSt := hide HS
  have HLex := hide L
  have HMach := hide X
  clear hg ha hb HS L X
  go_enter Tryz.func6, Tryz.ntmps6
  go_wp2_with fail
  refine (newM w).mono ?_
  rintro e w1 ⟨rfl, rfl⟩
  have HL1 := hide (Live.new HG.out)
  have HN1 : Hid (∀ W M', Stp (w.alloc dbO) (oneB w.heap.size) W M' → Below w.heap.size w W) := fun W M' h => stp_new ((Below.refl _ _).alloc (Nat.le_refl _) _) (fun k hk => Nat.le_of_eq (Eq.symm hk)) h (by simp)
  generalize hw1 : w.alloc dbO = w1 at *
  generalize hbb : w.heap.size = bb at *
  generalize oneB bb = M1 at *
  have HC := hide (doesY HLex.out HMach.out HL1.out (t := Pl.rCreate) (by decide) ok_create Pl.r_create rfl)
  have HBB := hide hbb
  clear hw1 hbb
  go_wp2_with fail
  refine (unhide HC).mono ?_
  rintro e w2 ⟨rfl, M2, lay2, hs2, hl2⟩
  have HS2 := hide hs2
  have HL2 := hide hl2
  clear hs2 hl2 HC HL1
  have HC := hide (numberM a w2 HA.out)
  have hla : (Pl.numP a).length ≤ 30 := Pl.numP_len HA.out
  have hlb : (Pl.numP b).length ≤ 30 := Pl.numP_len HB.out
  have HT := hide (rIns_str a b)
  have HNb : Hid (∀ W, Calls _ _ _ W _) := fun W => numberM b W HB.out
  generalize Pl.numP a = pa at *
  generalize Pl.numP b = pb at *
  go_wp2_with fail
  refine (unhide HC).mono ?_
  rintro e w3 ⟨rfl, hb3⟩
  have HB3 := hide hb3
  clear hb3 HC
  go_wp2_with fail
  refine ((unhide HNb) _).mono ?_
  rintro e w4 ⟨rfl, hb4⟩
  have HB4 : Hid (Below w2.heap.size w2 w4) := HB3.out.trans (hb4.mono HB3.out.size)
  clear hb4 HB3 HNb
  have HC := hide (doesY HLex.out HMach.out (HL2.out.below HB4.out) (rIns_len HA.out HB.out) (ok_insert HA.out HB.out) (Pl.r_insert HA.out HB.out) rfl)
  rw [← HT.out] at HC
  go_wp2_with fail
  refine (unhide HC).mono ?_
  rintro e w5 ⟨rfl, M5, lay5, hs5, hl5⟩
  have HS5 : Hid (Stp w1 M1 w5 M5) := (HS2.out.trans (Stp.below _ HB4.out)).trans hs5
  have HL5 := hide hl5
  clear hs5 hl5 HC HL2 HS2 HB4 HT hla hlb
  have HC := hide (rowsY HLex.out HMach.out HL5.out (t := Pl.rStar) (by decide) (ok_r HSt.out Pl.p_star (by decide) rfl rfl) (Pl.r_star a b) rfl)
  go_wp2_with fail
  refine (unhide HC).mono ?_
  rintro e w6 ⟨rv6, M6, lay6, rfl, hs6, hl6, hg6⟩
  have HS6 : Hid (Stp w1 M1 w6 M6) := HS5.out.trans hs6
  have HL6 := hide hl6
  obtain ⟨g6, c6, u6, rfl, hg6z, hc6, hr6⟩ := hg6.one
  obtain ⟨h6, d6, rfl, hh6z, e60, e61, e62⟩ := hr6.val (i := 0) (by simp)
  obtain ⟨h6', d6', he6, _, e63, e64, e65⟩ := hr6.val (i := 1) (by simp)
  cases he6
  simp [Pl.nV] at e60 e61 e62 e63 e64 e65 hc6
  clear hs6 hl6 HC HL5 HS5 hr6 hg6
  have HC := hide (execK HLex.out HMach.out HL6.out (t := Pl.rSum) (by decide) (ok_r HSt.out Pl.p_sum (by decide) rfl rfl) (Pl.r_sum a b))
  generalize hsa : Pl.ans64 (a + b) = sa at *
  have Hsa := hide hsa
  clear hsa
  go_wp2_with fail
  refine (unhide HC).mono ?_
  rintro e w7 ⟨rv7, M7, lay7, rfl, hs7, hl7, hg7⟩
  obtain ⟨a7, c7, rfl⟩ := hg7.slice
  have HS7 : Hid (Stp w1 M1 (w7.alloc (.cells #[.slice a7 sa.rows.length c7, .int .i64 sa.count] 36)) M7) := stp_box (HS6.out.trans hs7) _
  have HX7 := hide (Bx.new hl7 hg7 sa.count)
  have HL7 := hide (live_box hl7 (.cells #[.slice a7 sa.rows.length c7, .int .i64 sa.count] 36))
  clear hs7 hl7 hg7 HC HS6 HL6 e60 e61 e62 e63 e64 e65 hc6 hg6z hh6z
  have HC := hide (execK HLex.out HMach.out HL7.out (t := Pl.rDiff) (by decide) (ok_r HSt.out Pl.p_diff (by decide) rfl rfl) (Pl.r_diff a b))
  generalize hsd : Pl.ans64 (a - b) = sd at *
  have Hsd := hide hsd
  clear hsd
  go_wp2_with fail
  refine (unhide HC).mono ?_
  rintro e w8 ⟨rv8, M8, lay8, rfl, hs8, hl8, hg8⟩
  obtain ⟨a8, c8, rfl⟩ := hg8.slice
  have HS8 : Hid (Stp w1 M1 (w8.alloc (.cells #[.slice a8 sd.rows.length c8, .int .i64 sd.count] 36)) M8) := stp_box (HS7.out.trans hs8) _
  replace HX7 := hide ((HX7.out.step hs8).below ((Below.refl _ _).alloc (Nat.le_refl _) (.cells #[.slice a8 sd.rows.length c8, .int .i64 sd.count] 36)))
  have HX8 := hide (Bx.new hl8 hg8 sd.count)
  have HL8 := hide (live_box hl8 (.cells #[.slice a8 sd.rows.length c8, .int .i64 sd.count] 36))
  clear hs8 hl8 hg8 HC HS7 HL7 
  have HC := hide (execK HLex.out HMach.out HL8.out (t := Pl.rQuot) (by decide) (ok_r HSt.out Pl.p_quot (by decide) rfl rfl) (Pl.r_quot HA.out b))
  generalize hsq : Pl.quotA a b = sq at *
  have Hsq := hide hsq
  clear hsq
  go_wp2_with fail
  refine (unhide HC).mono ?_
  rintro e w9 ⟨rv9, M9, lay9, rfl, hs9, hl9, hg9⟩
  obtain ⟨a9, c9, rfl⟩ := hg9.slice
  have HS9 : Hid (Stp w1 M1 (w9.alloc (.cells #[.slice a9 sq.rows.length c9, .int .i64 sq.count] 36)) M9) := stp_box (HS8.out.trans hs9) _
  replace HX7 := hide ((HX7.out.step hs9).below ((Below.refl _ _).alloc (Nat.le_refl _) (.cells #[.slice a9 sq.rows.length c9, .int .i64 sq.count] 36)))
  replace HX8 := hide ((HX8.out.step hs9).below ((Below.refl _ _).alloc (Nat.le_refl _) (.cells #[.slice a9 sq.rows.length c9, .int .i64 sq.count] 36)))
  have HX9 := hide (Bx.new hl9 hg9 sq.count)
  have HL9 := hide (live_box hl9 (.cells #[.slice a9 sq.rows.length c9, .int .i64 sq.count] 36))
  clear hs9 hl9 hg9 HC HS8 HL8 
  have HC := hide (execK HLex.out HMach.out HL9.out (t := Pl.rProd) (by decide) (ok_r HSt.out Pl.p_prod (by decide) rfl rfl) (Pl.r_prod HA.out b))
  generalize hsp : Pl.prodA a b = sp at *
  have Hsp := hide hsp
  clear hsp
  go_wp2_with fail
  refine (unhide HC).mono ?_
  rintro e w10 ⟨rv10, M10, lay10, rfl, hs10, hl10, hg10⟩
  obtain ⟨a10, c10, rfl⟩ := hg10.slice
  have HS10 : Hid (Stp w1 M1 (w10.alloc (.cells #[.slice a10 sp.rows.length c10, .int .i64 sp.count] 36)) M10) := stp_box (HS9.out.trans hs10) _
  replace HX7 := hide ((HX7.out.step hs10).below ((Below.refl _ _).alloc (Nat.le_refl _) (.cells #[.slice a10 sp.rows.length c10, .int .i64 sp.count] 36)))
  replace HX8 := hide ((HX8.out.step hs10).below ((Below.refl _ _).alloc (Nat.le_refl _) (.cells #[.slice a10 sp.rows.length c10, .int .i64 sp.count] 36)))
  replace HX9 := hide ((HX9.out.step hs10).below ((Below.refl _ _).alloc (Nat.le_refl _) (.cells #[.slice a10 sp.rows.length c10, .int .i64 sp.count] 36)))
  have HX10 := hide (Bx.new hl10 hg10 sp.count)
  have HL10 := hide (live_box hl10 (.cells #[.slice a10 sp.rows.length c10, .int .i64 sp.count] 36))
  clear hs10 hl10 hg10 HC HS9 HL9 
  have HC := hide (execK HLex.out HMach.out HL10.out (t := Pl.rNeg) (by decide) (ok_r HSt.out Pl.p_neg (by decide) rfl rfl) (Pl.r_neg a b))
  generalize hsn : Pl.ans64 (-a) = sn at *
  have Hsn := hide hsn
  clear hsn
  go_wp2_with fail
  refine (unhide HC).mono ?_
  rintro e w11 ⟨rv11, M11, lay11, rfl, hs11, hl11, hg11⟩
  obtain ⟨a11, c11, rfl⟩ := hg11.slice
  have HS11 : Hid (Stp w1 M1 (w11.alloc (.cells #[.slice a11 sn.rows.length c11, .int .i64 sn.count] 36)) M11) := stp_box (HS10.out.trans hs11) _
  replace HX7 := hide ((HX7.out.step hs11).below ((Below.refl _ _).alloc (Nat.le_refl _) (.cells #[.slice a11 sn.rows.length c11, .int .i64 sn.count] 36)))
  replace HX8 := hide ((HX8.out.step hs11).below ((Below.refl _ _).alloc (Nat.le_refl _) (.cells #[.slice a11 sn.rows.length c11, .int .i64 sn.count] 36)))
  replace HX9 := hide ((HX9.out.step hs11).below ((Below.refl _ _).alloc (Nat.le_refl _) (.cells #[.slice a11 sn.rows.length c11, .int .i64 sn.count] 36)))
  replace HX10 := hide ((HX10.out.step hs11).below ((Below.refl _ _).alloc (Nat.le_refl _) (.cells #[.slice a11 sn.rows.length c11, .int .i64 sn.count] 36)))
  have HX11 := hide (Bx.new hl11 hg11 sn.count)
  have HL11 := hide (live_box hl11 (.cells #[.slice a11 sn.rows.length c11, .int .i64 sn.count] 36))
  clear hs11 hl11 hg11 HC HS10 HL10 
  have HC := hide (execK HLex.out HMach.out HL11.out (t := Pl.rLess) (by decide) (ok_r HSt.out Pl.p_less (by decide) rfl rfl) (Pl.r_less a b))
  generalize hsl : (⟨[[Pl.tru (decide (a < b))]], 0, 0⟩ : Pl.Ans) = sl at *
  have Hsl := hide hsl
  clear hsl
  go_wp2_with fail
  refine (unhide HC).mono ?_
  rintro e w12 ⟨rv12, M12, lay12, rfl, hs12, hl12, hg12⟩
  obtain ⟨a12, c12, rfl⟩ := hg12.slice
  have HS12 : Hid (Stp w1 M1 (w12.alloc (.cells #[.slice a12 sl.rows.length c12, .int .i64 sl.count] 36)) M12) := stp_box (HS11.out.trans hs12) _
  replace HX7 := hide ((HX7.out.step hs12).below ((Below.refl _ _).alloc (Nat.le_refl _) (.cells #[.slice a12 sl.rows.length c12, .int .i64 sl.count] 36)))
  replace HX8 := hide ((HX8.out.step hs12).below ((Below.refl _ _).alloc (Nat.le_refl _) (.cells #[.slice a12 sl.rows.length c12, .int .i64 sl.count] 36)))
  replace HX9 := hide ((HX9.out.step hs12).below ((Below.refl _ _).alloc (Nat.le_refl _) (.cells #[.slice a12 sl.rows.length c12, .int .i64 sl.count] 36)))
  replace HX10 := hide ((HX10.out.step hs12).below ((Below.refl _ _).alloc (Nat.le_refl _) (.cells #[.slice a12 sl.rows.length c12, .int .i64 sl.count] 36)))
  replace HX11 := hide ((HX11.out.step hs12).below ((Below.refl _ _).alloc (Nat.le_refl _) (.cells #[.slice a12 sl.rows.length c12, .int .i64 sl.count] 36)))
  have HX12 := hide (Bx.new hl12 hg12 sl.count)
  have HL12 := hide (live_box hl12 (.cells #[.slice a12 sl.rows.length c12, .int .i64 sl.count] 36))
  clear hs12 hl12 hg12 HC HS11 HL11 
  clear HL12 HSt HLex HMach
  go_upto_region 15 with fail
  generalize w12.alloc (.cells #[.slice a12 sl.rows.length c12, .int .i64 sl.count] 36) = WF at *
  generalize w7.heap.size = k7 at *
  generalize w8.heap.size = k8 at *
  generalize w9.heap.size = k9 at *
  generalize w10.heap.size = k10 at *
  generalize w11.heap.size = k11 at *
  generalize w12.heap.size = k12 at *
  obtain ⟨z7, p7, q7⟩ := HX7.out.cells
  go_upto_region 17 with fail
  generalize hsw : wrap64 (a + b) = sw at *
  have Hsw := hide hsw
  generalize hdw : wrap64 (a - b) = dw at *
  have Hdw := hide hdw
  clear hsw hdw
  go_cut [24] (fun s24 wx => s24 = .bool true ∧ Hid (Below WF.heap.size WF wx))
  case first =>
    rcases sum_ways HA.out HB.out Hsw.out with ⟨hsg, hin, hsw⟩ | ⟨hsg, hout⟩
    · have HF := hide (fits_in Hsa.out HX7.out hin hsw)
      clear hin hsw
      rcases hsg with ⟨s1, s2, s3⟩ | ⟨s1, s2⟩ | ⟨s1, s2⟩ | ⟨s1, s2, s3⟩
      all_goals as_aux_lemma =>
        go_wp2_with fail
        try rw [show decide (a < 0) = true from decide_eq_true (by omega)]
        try rw [show decide (a < 0) = false from decide_eq_false (by omega)]
        try rw [show decide (b < 0) = true from decide_eq_true (by omega)]
        try rw [show decide (b < 0) = false from decide_eq_false (by omega)]
        try rw [show decide (sw < 0) = true from decide_eq_true (by omega)]
        try rw [show decide (sw < 0) = false from decide_eq_false (by omega)]
        try simp only [Bool.not_true, Bool.not_false]
        refine (unhide HF).mono ?_
        rintro e wy ⟨rfl, hby⟩
        have HBy := hide hby
        clear hby
        go_wp2_with fail
        go_meet
        exact ⟨rfl, HBy.out⟩
    · have HF := hide (fits_out Hsa.out HX7.out hout sw)
      clear hout
      rcases hsg with ⟨s1, s2, s3⟩ | ⟨s1, s2, s3⟩
      all_goals as_aux_lemma =>
        go_wp2_with fail
        try rw [show decide (a < 0) = true from decide_eq_true (by omega)]
        try rw [show decide (a < 0) = false from decide_eq_false (by omega)]
        try rw [show decide (b < 0) = true from decide_eq_true (by omega)]
        try rw [show decide (b < 0) = false from decide_eq_false (by omega)]
        try rw [show decide (sw < 0) = true from decide_eq_true (by omega)]
        try rw [show decide (sw < 0) = false from decide_eq_false (by omega)]
        try simp only [Bool.not_true, Bool.not_false]
        refine (unhide HF).mono ?_
        rintro e wy ⟨rfl, hby⟩
        have HBy := hide hby
        clear hby
        go_wp2_with fail
        go_meet
        exact ⟨rfl, HBy.out⟩
  case rest =>
    obtain ⟨rfl, HW1⟩ := hcut
    obtain ⟨z8, p8, q8⟩ := (HX8.out.below HW1.out).cells
    clear p7 q7 z7
    go_upto_region 18 with fail
    go_cut [25] (fun s25 wx => s25 = .bool true ∧ Hid (Below WF.heap.size WF wx))
    case first =>
      rcases diff_ways HA.out HB.out Hdw.out with ⟨hsg, hin, hsw⟩ | ⟨hsg, hout⟩
      · have HF := hide (fits_in Hsd.out (HX8.out.below HW1.out) hin hsw)
        clear hin hsw
        rcases hsg with ⟨s1, s2⟩ | ⟨s1, s2, s3⟩ | ⟨s1, s2, s3⟩ | ⟨s1, s2⟩
        all_goals as_aux_lemma =>
          go_wp2_with fail
          try rw [show decide (a < 0) = true from decide_eq_true (by omega)]
          try rw [show decide (a < 0) = false from decide_eq_false (by omega)]
          try rw [show decide (b < 0) = true from decide_eq_true (by omega)]
          try rw [show decide (b < 0) = false from decide_eq_false (by omega)]
          try rw [show decide (dw < 0) = true from decide_eq_true (by omega)]
          try rw [show decide (dw < 0) = false from decide_eq_false (by omega)]
          try simp only [Bool.not_true, Bool.not_false]
          refine (unhide HF).mono ?_
          rintro e wy ⟨rfl, hby⟩
          have HBy := hide (HW1.out.trans (hby.mono HW1.out.size))
          clear hby
          go_wp2_with fail
          go_meet
          exact ⟨rfl, HBy.out⟩
      · have HF := hide (fits_out Hsd.out (HX8.out.below HW1.out) hout dw)
        clear hout
        rcases hsg with ⟨s1, s2, s3⟩ | ⟨s1, s2, s3⟩
        all_goals as_aux_lemma =>
          go_wp2_with fail
          try rw [show decide (a < 0) = true from decide_eq_true (by omega)]
          try rw [show decide (a < 0) = false from decide_eq_false (by omega)]
          try rw [show decide (b < 0) = true from decide_eq_true (by omega)]
          try rw [show decide (b < 0) = false from decide_eq_false (by omega)]
          try rw [show decide (dw < 0) = true from decide_eq_true (by omega)]
          try rw [show decide (dw < 0) = false from decide_eq_false (by omega)]
          try simp only [Bool.not_true, Bool.not_false]
          refine (unhide HF).mono ?_
          rintro e wy ⟨rfl, hby⟩
          have HBy := hide (HW1.out.trans (hby.mono HW1.out.size))
          clear hby
          go_wp2_with fail
          go_meet
          exact ⟨rfl, HBy.out⟩
    case rest =>
      obtain ⟨rfl, HW2⟩ := hcut
      obtain ⟨z11, p11, q11⟩ := (HX11.out.below HW2.out).cells
      clear z8 p8 q8
      go_upto_region 19 with fail
      go_cut [26] (fun s26 wx => s26 = .bool true ∧ Hid (Below WF.heap.size WF wx))
      case first =>
        have ha1 := HA.out
        unfold Pl.in64 at ha1
        by_cases hmin : a = -9223372036854775808
        · have HF : Hid (∀ sw, Calls _ _ _ _ _) := fun sw => fits_out Hsn.out (HX11.out.below HW2.out) (by unfold Pl.in64; omega) sw
          have hm : (a == -9223372036854775808) = true := by simp [hmin]
          clear hmin ha1
          as_aux_lemma =>
            go_wp2_with fail
            refine ((unhide HF) _).mono ?_
            rintro e wy ⟨rfl, hby⟩
            have HBy := hide (HW2.out.trans (hby.mono HW2.out.size))
            clear hby
            go_wp2_with fail
            go_meet
            exact ⟨rfl, HBy.out⟩
        · have hin : Pl.in64 (-a) := by unfold Pl.in64; omega
          have HF := hide (fits_in Hsn.out (HX11.out.below HW2.out) hin (sw := -a) rfl)
          have hm : (a == -9223372036854775808) = false := by simp [hmin]
          have hlo : -9223372036854775807 ≤ a := by omega
          clear hmin
          as_aux_lemma =>
            go_wp2_with fail
            refine (unhide HF).mono ?_
            rintro e wy ⟨rfl, hby⟩
            have HBy := hide (HW2.out.trans (hby.mono HW2.out.size))
            clear hby
            go_wp2_with fail
            go_meet
            exact ⟨rfl, HBy.out⟩
      case rest =>
        obtain ⟨rfl, HW3⟩ := hcut
        obtain ⟨z12, p12, q12⟩ := (HX12.out.below HW3.out).cells
        clear z11 p11 q11
        have HO := hide (one_at (by rw [← Hsl.out]) (HX12.out.below HW3.out) 0 (by simp) (by simp))
        rw [show ([Pl.tru (decide (a < b))].getD 0 Pl.nul).n = lessN a b from less_n a b] at HO
        go_wp2_with fail
        refine (unhide HO).mono ?_
        rintro e wz ⟨rfl, hbz⟩
        have HW4 := hide (HW3.out.trans (hbz.mono HW3.out.size))
        clear hbz HO z12 p12 q12
        go_upto_region 21 with fail
        go_cut [201] (fun s201 wx => s201 = .bool false ∧ wx = wz)
        case first =>
          have hl0 : ((sl.err : Int) != 0) = false := by rw [← Hsl.out]; rfl
          by_cases hab : a < b
          · have hn : lessN a b = 1 := by unfold lessN; rw [if_pos hab]
            have hn1 : (lessN a b == 1) = true := by rw [hn]; rfl
            have hn2 : decide (a < b) = true := decide_eq_true hab
            generalize lessN a b = ln at *
            clear hn
            as_aux_lemma =>
              go_wp2_with fail
              go_meet
              exact ⟨rfl, rfl⟩
          · have hn : lessN a b = 0 := by unfold lessN; rw [if_neg hab]
            have hn1 : (lessN a b == 1) = false := by rw [hn]; rfl
            have hn2 : decide (a < b) = false := decide_eq_false hab
            generalize lessN a b = ln at *
            clear hn
            as_aux_lemma =>
              go_wp2_with fail
              go_meet
              exact ⟨rfl, rfl⟩
        case rest =>
          obtain ⟨rfl, rfl⟩ := hcut
          have HEnd : Hid (∀ W, Below WF.heap.size WF W → Below w.heap.size w W) := fun W hW => by
            rw [HBB.out]
            have h1 := HN1.out _ _ HS12.out
            exact h1.trans (hW.mono (by have := h1.size; have := HBB.out; omega))
          by_cases h0 : b = 0
          · obtain ⟨e1, e2⟩ := quot_0 (a := a) h0
            have f1 : ((sq.err : Int) == 5) = true := by rw [← Hsq.out, e1]; rfl
            have f2 : ((sp.err : Int) == 5) = true := by rw [← Hsp.out, e2]; rfl
            have g0 : (b == 0) = true := by simp [h0]
            clear e1 e2 h0
            as_aux_lemma =>
              go_wp2_with fail
              go_ret
              exact ⟨rfl, HEnd.out _ HW4.out⟩
          · by_cases h1 : a = -9223372036854775808 ∧ b = -1
            · obtain ⟨e1, e2⟩ := quot_1 h0 h1
              have f1 : ((sq.err : Int) == 4) = true := by rw [← Hsq.out, e1]; rfl
              have f2 : ((sp.err : Int) == 4) = true := by rw [← Hsp.out, e2]; rfl
              have g0 : (b == 0) = false := by simp [h0]
              have g1 : (a == -9223372036854775808) = true := by simp [h1.1]
              have g2 : (b == -1) = true := by simp [h1.2]
              clear e1 e2 h0 h1
              as_aux_lemma =>
                go_wp2_with fail
                go_ret
                exact ⟨rfl, HEnd.out _ HW4.out⟩
            · obtain ⟨e1, e2⟩ := quot_2 h0 h1
              have g0 : (b == 0) = false := by simp [h0]
              have hr1 := Pl.tdiv_range HA.out h0 h1
              have hb0 : b ≠ 0 := h0
              have w1' : wrap64 (Int.tdiv a b) = Int.tdiv a b := IntWalk.wrap64_in _ ⟨by have := hr1.1; omega, by have := hr1.2; omega⟩
              have w2' : wrap64 (Int.tmod a b) = Int.tmod a b := IntWalk.wrap64_in _ (by have := tmod_range HA.out h0; exact ⟨by have := this.1; omega, by have := this.2; omega⟩)
              have hc : ((a == -9223372036854775808) = true ∧ (b == -1) = false) ∨ (a == -9223372036854775808) = false := by
                by_cases hm : a = -9223372036854775808
                · exact .inl ⟨by simp [hm], by simp; exact fun hb => h1 ⟨hm, hb⟩⟩
                · exact .inr (by simp [hm])
              obtain ⟨z9, p9, q9⟩ := (HX9.out.below HW4.out).cells
              have HO1 := hide (one_at (r := [Pl.nV (Int.tdiv a b), Pl.nV (Int.tmod a b)]) (by rw [← Hsq.out, e1]) (HX9.out.below HW4.out) 0 (by simp) (by simp))
              rw [show ([Pl.nV (Int.tdiv a b), Pl.nV (Int.tmod a b)].getD 0 Pl.nul).n = Int.tdiv a b from rfl] at HO1
              have HX9' := hide (HX9.out.below HW4.out)
              have HX10' := hide (HX10.out.below HW4.out)
              have fq : ((sq.err : Int) == 0) = true := by rw [← Hsq.out, e1]; rfl
              have HP : Hid (sp = ⟨[[Pl.nV a]], 0, 0⟩) := by unfold Hid; rw [← Hsp.out, e2]
              have HQ : Hid (sq.rows = [[Pl.nV (Int.tdiv a b), Pl.nV (Int.tmod a b)]]) := by unfold Hid; rw [← Hsq.out, e1]
              clear e1 e2 h1 hr1
              rcases hc with ⟨c1, c2⟩ | c1
              all_goals as_aux_lemma =>
                go_wp2_with fail
                refine (unhide HO1).mono ?_
                rintro e y1 ⟨rfl, hy1⟩
                have HY1 := hide hy1
                obtain ⟨z9', p9', q9'⟩ := (HX9'.out.below hy1).cells
                have HO2 := hide (one_at HQ.out (HX9'.out.below hy1) 1 (by simp) (by simp))
                rw [show ([Pl.nV (Int.tdiv a b), Pl.nV (Int.tmod a b)].getD 1 Pl.nul).n = Int.tmod a b from rfl] at HO2
                clear hy1 z9 p9 q9
                go_wp2_with fail
                refine (unhide HO2).mono ?_
                rintro e y2 ⟨rfl, hy2⟩
                have HY2 := hide (HY1.out.trans (hy2.mono HY1.out.size))
                obtain ⟨z10, p10, q10⟩ := (HX10'.out.below HY2.out).cells
                have HO3 : Hid (Calls _ _ _ _ _) := fits_in (s := a) (sw := a) (by rw [ans_in HA.out, HP.out]) (HX10'.out.below HY2.out) HA.out rfl
                have HE : Hid (∀ W, Below y2.heap.size y2 W → Below w.heap.size w W) := fun W hW => HEnd.out W ((HW4.out.trans (HY2.out.mono HW4.out.size)).trans (hW.mono (Nat.le_trans HW4.out.size HY2.out.size)))
                clear hy2 z9' p9' q9' HY1 HY2 HO2 HO1
                go_wp2_with fail
                refine (unhide HO3).mono ?_
                rintro e y3 ⟨rfl, hy3⟩
                have HE3 := hide (HE.out _ hy3)
                clear hy3 z10 p10 q10 HO3 HE
                go_wp2_with fail
                go_ret
                exact ⟨rfl, HE3.out⟩
end Go.Proofs.YtojdpjpldokjmaaGreatDoor
