/- The code's do: a statement done. -/
import Derived.Test.YtojdpjpldokjmaaGreatDoorJ31
import Derived.Test.YtojdpjpldokjmaaGreatDoorJ32
namespace Go.Proofs.YtojdpjpldokjmaaGreatDoor
open Go.RowKit Go.Deep
set_option linter.unusedSimpArgs false
set_option linter.unusedVariables false

/-- The contract of update. -/
def UpdM : Prop := ∀ (lo : Nat) (w : World) (M : Nat → Prop) (b n : Nat) (lay : List Lay) (D : Pl.DB) (s : Pl.St) (ps : List (Pl.It × Value)) (u v : Value), ExIn w M b lay D → w.heap[n]? = some (.cells #[.string ⟨s.table.toArray⟩, u, v] 213) → ps.map (·.1) = s.items → SetsW w w.heap.size ps u → TrW w w.heap.size s.whr v → Pl.okSt s → s.kind = 117 → lo ≤ w.heap.size →
  Calls Tryz.prog 68 #[.pointer (some ⟨b, 0, none⟩), .pointer (some ⟨n, 0, none⟩)] w (PostCh lo w M b (Pl.doUpdate D s))
/-- Of a world all but one block is as it was. -/
structure But (k : Nat) (w w' : World) : Prop where
  os : w'.os = w.os
  tape : w'.tape = w.tape
  output : w'.output = w.output
  size : w'.heap.size = w.heap.size
  block : ∀ j, j ≠ k → w'.heap[j]? = w.heap[j]?
theorem But.refl (k : Nat) (w : World) : But k w w := ⟨rfl, rfl, rfl, rfl, fun _ _ => rfl⟩
theorem But.set {k : Nat} {w w' : World} (h : But k w w') (o : Nat) (v : Value) : But k w (w'.setCell ⟨k, o, none⟩ v) :=
  ⟨h.os, h.tape, h.output, by rw [size_set]; exact h.size, fun j hj => by rw [Below.heap_setCell _ _ _ _ hj]; exact h.block j hj⟩
theorem DbStep.boxed {lo : Nat} {w w' w'' : World} {o : Obj} {M M' : Nat → Prop} {b : Nat} {D : Pl.DB} {lay : List Lay} (h : DbStep lo (w.alloc o) M b D w' M' lay) (hs : But w.heap.size w' w'') (hM : M' w.heap.size → w''.heap[w.heap.size]? = w'.heap[w.heap.size]?) : DbStep lo w M b D w'' M' lay := by
  have hk : ∀ k, M' k → w''.heap[k]? = w'.heap[k]? := fun k hk => by
    by_cases e : k = w.heap.size
    · subst e; exact hM hk
    · exact hs.block k e
  refine ⟨h.db.keep (Nat.le_of_eq hs.size.symm) hk, h.sub, h.new, hs.os.trans h.keep.os, hs.tape.trans h.keep.tape, hs.output.trans h.keep.output, ?_, fun k hk => ?_⟩
  · have := h.keep.size
    simp at this
    rw [hs.size]; omega
  · rw [hs.block k (by omega), h.keep.block k ⟨by simp; omega, hk.2⟩, Below.heap_alloc _ _ _ hk.1]
/-- The rows that came out, in memory. -/
def OutW (base : Nat) (w' : World) (M M' : Nat → Prop) (rows : List (List Pl.V)) (rv : Value) : Prop := ∃ qs : List Pl.PRow, rows = qs.map (·.1) ∧ w'.ownsRow base 32 1 rv qs.length (sndC qs) ∧ NewRows w' base qs ∧ (rv = .slice none 0 0 ∨ M' = M)
theorem OutW.nil (base : Nat) (w' : World) (M M' : Nat → Prop) : OutW base w' M M' [] (.slice none 0 0) := ⟨[], rfl, own_nil, ⟨by simp, .nil⟩, .inl rfl⟩
/-- What a statement's doing leaves. -/
def PostDo (lo : Nat) (w : World) (M : Nat → Prop) (b : Nat) (o : Pl.DB × Pl.Ans) (e : Ending) (w' : World) : Prop :=
  ∃ rv M' lay', e = .returned (.tuple #[.agg #[rv, .int .i64 o.2.count], .int .i64 (o.2.err : Nat)]) ∧ DbStep lo w M b o.1 w' M' lay' ∧ OutW w.heap.size w' M M' o.2.rows rv
theorem doSt_99 {D : Pl.DB} {s : Pl.St} (h : s.kind = 99) : Pl.doSt D s = Pl.doCreate D s := by unfold Pl.doSt; rw [if_pos h]
theorem doSt_105 {D : Pl.DB} {s : Pl.St} (h : s.kind = 105) : Pl.doSt D s = Pl.doInsert D s := by unfold Pl.doSt; rw [if_neg (by omega), if_pos h]
theorem doSt_100 {D : Pl.DB} {s : Pl.St} (h : s.kind = 100) : Pl.doSt D s = Pl.doDelete D s := by unfold Pl.doSt; rw [if_neg (by omega), if_neg (by omega), if_pos h]
theorem doSt_117 {D : Pl.DB} {s : Pl.St} (h : s.kind = 117) : Pl.doSt D s = Pl.doUpdate D s := by unfold Pl.doSt; rw [if_neg (by omega), if_neg (by omega), if_neg (by omega), if_pos h]
theorem doSt_115 {D : Pl.DB} {s : Pl.St} (h : s.kind = 115) : Pl.doSt D s = Pl.doSelect D s := by unfold Pl.doSt; rw [if_neg (by omega), if_neg (by omega), if_neg (by omega), if_neg (by omega)]
theorem create_rows (D : Pl.DB) (s : Pl.St) : (Pl.doCreate D s).2.rows = [] ∧ (Pl.doCreate D s).2.count = 0 := by
  unfold Pl.doCreate
  split
  · exact ⟨rfl, rfl⟩
  · split <;> exact ⟨rfl, rfl⟩
theorem insert_rows (D : Pl.DB) (s : Pl.St) : (Pl.doInsert D s).2.rows = [] := by
  unfold Pl.doInsert
  cases Pl.tabAt D s.table with
  | none => rfl
  | some i =>
    simp only
    split
    · rfl
    · cases Pl.tcRow (s.items.map (·.tree)) ((Pl.tabD D i).cols.map (·.2)) with
      | some e => rfl
      | none =>
        simp only
        cases Pl.evAll [] [] (s.items.map (·.tree)) with
        | error e => rfl
        | ok row =>
          simp only
          split <;> rfl
theorem delete_rows (D : Pl.DB) (s : Pl.St) : (Pl.doDelete D s).2.rows = [] := by
  unfold Pl.doDelete
  cases Pl.tabAt D s.table with
  | none => rfl
  | some i =>
    simp only
    cases Pl.tcAs (Pl.scope (Pl.tabD D i).name (Pl.tabD D i)) (Pl.cond s.whr) 3 with
    | some e => rfl
    | none =>
      simp only
      cases Pl.sift (Pl.scope (Pl.tabD D i).name (Pl.tabD D i)) (Pl.cond s.whr) (Pl.tabD D i).rows <;> rfl
theorem update_rows (D : Pl.DB) (s : Pl.St) : (Pl.doUpdate D s).2.rows = [] := by
  unfold Pl.doUpdate
  cases Pl.tabAt D s.table with
  | none => rfl
  | some i =>
    simp only
    cases Pl.setsGo (Pl.tabD D i) [] s.items with
    | error e => rfl
    | ok ks =>
      simp only
      cases Pl.tcAs (Pl.scope (Pl.tabD D i).name (Pl.tabD D i)) (Pl.cond s.whr) 3 with
      | some e => rfl
      | none =>
        simp only
        cases Pl.updGo (Pl.scope (Pl.tabD D i).name (Pl.tabD D i)) (Pl.cond s.whr) ks (s.items.map (·.tree)) (Pl.tabD D i).rows <;> rfl

theorem as_cc (W : World) (v : Value) : (Instr.typeAssert (.iface 131 v) 79 131 true).run Tryz.prog W = .ok (.tuple #[v, .bool true]) W := by kernel_rfl
theorem as_ic (W : World) (v : Value) : (Instr.typeAssert (.iface 133 v) 79 131 true).run Tryz.prog W = .ok (.tuple #[.pointer none, .bool false]) W := by kernel_rfl
theorem as_ii (W : World) (v : Value) : (Instr.typeAssert (.iface 133 v) 79 133 true).run Tryz.prog W = .ok (.tuple #[v, .bool true]) W := by kernel_rfl
theorem as_dc (W : World) (v : Value) : (Instr.typeAssert (.iface 135 v) 79 131 true).run Tryz.prog W = .ok (.tuple #[.pointer none, .bool false]) W := by kernel_rfl
theorem as_di (W : World) (v : Value) : (Instr.typeAssert (.iface 135 v) 79 133 true).run Tryz.prog W = .ok (.tuple #[.pointer none, .bool false]) W := by kernel_rfl
theorem as_dd (W : World) (v : Value) : (Instr.typeAssert (.iface 135 v) 79 135 true).run Tryz.prog W = .ok (.tuple #[v, .bool true]) W := by kernel_rfl
theorem as_uc (W : World) (v : Value) : (Instr.typeAssert (.iface 137 v) 79 131 true).run Tryz.prog W = .ok (.tuple #[.pointer none, .bool false]) W := by kernel_rfl
theorem as_ui (W : World) (v : Value) : (Instr.typeAssert (.iface 137 v) 79 133 true).run Tryz.prog W = .ok (.tuple #[.pointer none, .bool false]) W := by kernel_rfl
theorem as_ud (W : World) (v : Value) : (Instr.typeAssert (.iface 137 v) 79 135 true).run Tryz.prog W = .ok (.tuple #[.pointer none, .bool false]) W := by kernel_rfl
theorem as_uu (W : World) (v : Value) : (Instr.typeAssert (.iface 137 v) 79 137 true).run Tryz.prog W = .ok (.tuple #[v, .bool true]) W := by kernel_rfl
theorem as_sc (W : World) (v : Value) : (Instr.typeAssert (.iface 139 v) 79 131 true).run Tryz.prog W = .ok (.tuple #[.pointer none, .bool false]) W := by kernel_rfl
theorem as_si (W : World) (v : Value) : (Instr.typeAssert (.iface 139 v) 79 133 true).run Tryz.prog W = .ok (.tuple #[.pointer none, .bool false]) W := by kernel_rfl
theorem as_sd (W : World) (v : Value) : (Instr.typeAssert (.iface 139 v) 79 135 true).run Tryz.prog W = .ok (.tuple #[.pointer none, .bool false]) W := by kernel_rfl
theorem as_su (W : World) (v : Value) : (Instr.typeAssert (.iface 139 v) 79 137 true).run Tryz.prog W = .ok (.tuple #[.pointer none, .bool false]) W := by kernel_rfl
theorem as_ss (W : World) (v : Value) : (Instr.typeAssert (.iface 139 v) 79 139 true).run Tryz.prog W = .ok (.tuple #[v, .bool true]) W := by kernel_rfl
end Go.Proofs.YtojdpjpldokjmaaGreatDoor
/- The code's do: the walks. -/
namespace Go.Proofs.YtojdpjpldokjmaaGreatDoor
open Go.RowKit Go.Deep
set_option linter.unusedSimpArgs false
set_option linter.unusedVariables false

abbrev boxO : Obj := .cells #[.slice none 0 0, .int .i64 0] 36
/-- What insert, delete and update leave, ahead of do's own end. -/
theorem ch_done {lo : Nat} {w : World} {M : Nat → Prop} {b : Nat} {lay : List Lay} {D : Pl.DB} {o : Pl.DB × Pl.Ans} (h : DbW w M b lay D) (hlo : lo ≤ w.heap.size) (hr : o.2.rows = []) (w1 : World) (hp : ∃ M' lay', DbStep (w.heap.size + 1) (w.alloc boxO) M b o.1 w1 M' lay') :
    w1.heap[w.heap.size]? = some boxO ∧ ∀ w'', But w.heap.size w1 w'' → PostDo lo w M b o (.returned (.tuple #[.agg #[.slice none 0 0, .int .i64 o.2.count], .int .i64 (o.2.err : Nat)])) w'' := by
  obtain ⟨M', lay', hst⟩ := hp
  have hnb : ¬ M w.heap.size := fun hm => by have := h.lt _ hm; omega
  have hnb' : ¬ M' w.heap.size := fun hm => by
    rcases hst.new _ hm with h' | h'
    · exact hnb h'
    · omega
  refine ⟨(hst.keep.block _ ⟨by simp, hnb⟩).trans (blk_new _ _), fun w'' hs => ⟨_, M', lay', rfl, (hst.boxed hs (fun hm => absurd hm hnb')).low (by omega), ?_⟩⟩
  rw [hr]
  exact OutW.nil _ _ _ _
theorem cr_done {lo : Nat} {w : World} {M : Nat → Prop} {b : Nat} {lay : List Lay} {D : Pl.DB} {o : Pl.DB × Pl.Ans} (h : DbW w M b lay D) (hr : o.2.rows = [] ∧ o.2.count = 0) (w1 : World) (hp : ∃ M' lay', DbStep lo (w.alloc boxO) M b o.1 w1 M' lay') :
    w1.heap[w.heap.size]? = some boxO ∧ ∀ w'', But w.heap.size w1 w'' → w''.heap[w.heap.size]? = some boxO → PostDo lo w M b o (.returned (.tuple #[.agg #[.slice none 0 0, .int .i64 0], .int .i64 (o.2.err : Nat)])) w'' := by
  obtain ⟨M', lay', hst⟩ := hp
  have hnb : ¬ M w.heap.size := fun hm => by have := h.lt _ hm; omega
  have hx := (hst.keep.block _ ⟨by simp, hnb⟩).trans (blk_new w boxO)
  refine ⟨hx, fun w'' hs hsame => ⟨_, M', lay', by rw [hr.2], hst.boxed hs (fun _ => by rw [hsame, hx]), ?_⟩⟩
  rw [hr.1]
  exact OutW.nil _ _ _ _
theorem select_no {D : Pl.DB} {s : Pl.St} {er : Nat} (hs : Pl.okSt s) (hk : s.kind = 115) (h : Pl.choose D s = .error er) : Pl.doSelect D s = (D, Pl.no er) := by rw [Pl.choose_do hs hk, h]
theorem select_yes {D : Pl.DB} {s : Pl.St} {rows : List (List Pl.V)} (hs : Pl.okSt s) (hk : s.kind = 115) (h : Pl.choose D s = .ok rows) : Pl.doSelect D s = (D, ⟨rows, 0, 0⟩) := by rw [Pl.choose_do hs hk, h]
theorem OutW.keep {base base' : Nat} {w w' : World} {M M' : Nat → Prop} {rows : List (List Pl.V)} {rv : Value} (h : OutW base w M M' rows rv) (hk : ∀ k, base ≤ k → k < w.heap.size → w'.heap[k]? = w.heap[k]?) (hb : base' ≤ base) : OutW base' w' M M' rows rv := by
  obtain ⟨qs, h1, h2, h3, h4⟩ := h
  refine ⟨qs, h1, own_base (own_at h2 (fun k hk' => hk k (h2.lt k hk').1 (h2.lt k hk').2)) hb, ⟨fun q hq => own_base (own_at (h3.1 q hq) (fun k hk' => hk k ((h3.1 q hq).lt k hk').1 ((h3.1 q hq).lt k hk').2)) hb, h3.2⟩, h4⟩
theorem sel_done {lo : Nat} {w w1 : World} {M : Nat → Prop} {b : Nat} {lay : List Lay} {D : Pl.DB} {rows : List (List Pl.V)} {rv : Value} (h : DbW w M b lay D) (hb : Below (w.heap.size + 1) (w.alloc boxO) w1) (ho : OutW (w.heap.size + 1) w1 M M rows rv) :
    w1.heap[w.heap.size]? = some boxO ∧ ∀ w'', But w.heap.size w1 w'' → PostDo lo w M b (D, ⟨rows, 0, 0⟩) (.returned (.tuple #[.agg #[rv, .int .i64 0], .int .i64 0])) w'' := by
  have hnb : ¬ M w.heap.size := fun hm => by have := h.lt _ hm; omega
  have hx := (hb.block _ (by omega)).trans (blk_new w boxO)
  have hz := hb.size
  simp at hz
  refine ⟨hx, fun w'' hs => ⟨rv, M, lay, rfl, ⟨h.keep (by rw [hs.size]; omega) (fun k hk => ?_), fun k hk => hk, fun k hk => .inl hk, hs.os.trans hb.os, hs.tape.trans hb.tape, hs.output.trans hb.output, by rw [hs.size]; omega, fun k hk => ?_⟩, ?_⟩⟩
  · have := h.lt k hk
    rw [hs.block k (by omega), hb.block k (by omega), Below.heap_alloc _ _ _ this]
  · have := hk.1
    rw [hs.block k (by omega), hb.block k (by omega), Below.heap_alloc _ _ _ this]
  · exact ho.keep (fun k hk _ => hs.block k (by omega)) (by omega)
theorem sel_err {lo : Nat} {w w1 : World} {M : Nat → Prop} {b : Nat} {lay : List Lay} {D : Pl.DB} {er : Nat} (h : DbW w M b lay D) (hb : Below (w.heap.size + 1) (w.alloc boxO) w1) :
    w1.heap[w.heap.size]? = some boxO ∧ ∀ w'', But w.heap.size w1 w'' → PostDo lo w M b (D, Pl.no er) (.returned (.tuple #[.agg #[.slice none 0 0, .int .i64 0], .int .i64 (er : Nat)])) w'' := by
  have h0 := sel_done (lo := lo) (rows := []) (rv := .slice none 0 0) h hb (OutW.nil _ _ _ _)
  refine ⟨h0.1, fun w'' hs => ?_⟩
  obtain ⟨rv, M', lay', h1, h2, h3⟩ := h0.2 w'' hs
  exact ⟨_, M', lay', rfl, h2, OutW.nil _ _ _ _⟩

set_option maxHeartbeats 4000000 in
set_option maxRecDepth 100000 in
theorem do_insert (X : MachLib) (lo : Nat) (w : World) (M : Nat → Prop) (b n rb base : Nat) (lay : List Lay) (D : Pl.DB) (s : Pl.St) (h : ExIn w M b lay D) (hc : CSt w rb base s n) (hs : Pl.okSt s) (hk : s.kind = 105) (hlo : lo ≤ w.heap.size) :
    Calls Tryz.prog 36 #[.pointer (some ⟨b, 0, none⟩), .iface 133 (.pointer (some ⟨n, 0, none⟩))] w (PostDo lo w M b (Pl.doInsert D s)) := by
  obtain ⟨tv, ts, hn, hts, htv⟩ := cst_insert hc hk
  have hb0 : Below w.heap.size w (w.alloc boxO) := (Below.refl _ _).alloc (Nat.le_refl _) _
  have HI := hide (insertM X (w.heap.size + 1) s hs hk ts hts n tv (w.alloc boxO) M b lay D (h.below hb0) (by simp) (below_blk hb0 (lt_of_blk hn) hn) (htv.below hb0))
  have HD := hide (ch_done (o := Pl.doInsert D s) h.db hlo (insert_rows D s))
  generalize Pl.doInsert D s = out at *
  have a1 := as_ic (w.alloc boxO) (.pointer (some ⟨n, 0, none⟩))
  have a2 := as_ii (w.alloc boxO) (.pointer (some ⟨n, 0, none⟩))
  clear hc hn hts htv hb0 h hs
  generalize PostDo lo w M b out = Post at *
  go_enter Tryz.func36, Tryz.ntmps36
  go_wp2_with fail
  refine (unhide HI).mono ?_
  rintro e w1 ⟨rfl, hp⟩
  obtain ⟨hx, he⟩ := HD.out w1 hp
  have x0 := blk_cell hx 0
  have x1 := blk_cell hx 1
  have xf0 := blk_frozen hx 0
  have xf1 := blk_frozen hx 1
  simp at x0 x1
  have hxz := lt_of_blk hx
  have HE := hide he
  have HX := hide hx
  clear he hp HD HI hx
  go_wp2_with fail
  refine bodyPost_ret (v := .tuple #[.agg #[.slice none 0 0, .int .i64 out.2.count], .int .i64 (out.2.err : Nat)]) ?_ rfl (HE.out _ ((((But.refl _ _).set 1 (.int .i64 out.2.count)).set 0 (.slice none 0 0)).set 1 (.int .i64 out.2.count)))
  have rb := (blk_set (blk_set (blk_set HX.out 1 (.int .i64 out.2.count)) 0 (.slice none 0 0)) 1 (.int .i64 out.2.count))
  have r0 := blk_cell rb 0
  have r1 := blk_cell rb 1
  simp at r0 r1
  simp [results, Tryz.results36, go_sem, r0, r1]
set_option maxHeartbeats 4000000 in
set_option maxRecDepth 100000 in
theorem do_delete (X : MachLib) (lo : Nat) (w : World) (M : Nat → Prop) (b n rb base : Nat) (lay : List Lay) (D : Pl.DB) (s : Pl.St) (h : ExIn w M b lay D) (hc : CSt w rb base s n) (hs : Pl.okSt s) (hk : s.kind = 100) (hlo : lo ≤ w.heap.size) :
    Calls Tryz.prog 36 #[.pointer (some ⟨b, 0, none⟩), .iface 135 (.pointer (some ⟨n, 0, none⟩))] w (PostDo lo w M b (Pl.doDelete D s)) := by
  obtain ⟨v, hn, hv⟩ := cst_delete hc hk
  have hb0 : Below w.heap.size w (w.alloc boxO) := (Below.refl _ _).alloc (Nat.le_refl _) _
  have HI := hide (deleteM X (w.heap.size + 1) (w.alloc boxO) M b n lay D s v (h.below hb0) (below_blk hb0 (lt_of_blk hn) hn) ((hv.keep (fun k hk => hb0.block k hk)).more hb0.size) hs (by simp))
  have HD := hide (ch_done (o := Pl.doDelete D s) h.db hlo (delete_rows D s))
  generalize Pl.doDelete D s = out at *
  have a1 := as_dc (w.alloc boxO) (.pointer (some ⟨n, 0, none⟩))
  have a2 := as_di (w.alloc boxO) (.pointer (some ⟨n, 0, none⟩))
  have a3 := as_dd (w.alloc boxO) (.pointer (some ⟨n, 0, none⟩))
  clear hc hn hv hb0 h hs
  generalize PostDo lo w M b out = Post at *
  go_enter Tryz.func36, Tryz.ntmps36
  go_wp2_with fail
  refine (unhide HI).mono ?_
  rintro e w1 ⟨rfl, hp⟩
  obtain ⟨hx, he⟩ := HD.out w1 hp
  have x0 := blk_cell hx 0
  have x1 := blk_cell hx 1
  have xf0 := blk_frozen hx 0
  have xf1 := blk_frozen hx 1
  simp at x0 x1
  have hxz := lt_of_blk hx
  have HE := hide he
  have HX := hide hx
  clear he hp HD HI hx
  go_wp2_with fail
  refine bodyPost_ret (v := .tuple #[.agg #[.slice none 0 0, .int .i64 out.2.count], .int .i64 (out.2.err : Nat)]) ?_ rfl (HE.out _ ((((But.refl _ _).set 1 (.int .i64 out.2.count)).set 0 (.slice none 0 0)).set 1 (.int .i64 out.2.count)))
  have rb := (blk_set (blk_set (blk_set HX.out 1 (.int .i64 out.2.count)) 0 (.slice none 0 0)) 1 (.int .i64 out.2.count))
  have r0 := blk_cell rb 0
  have r1 := blk_cell rb 1
  simp at r0 r1
  simp [results, Tryz.results36, go_sem, r0, r1]
set_option maxHeartbeats 4000000 in
set_option maxRecDepth 100000 in
theorem do_update (U : UpdM) (lo : Nat) (w : World) (M : Nat → Prop) (b n rb base : Nat) (lay : List Lay) (D : Pl.DB) (s : Pl.St) (h : ExIn w M b lay D) (hc : CSt w rb base s n) (hs : Pl.okSt s) (hk : s.kind = 117) (hlo : lo ≤ w.heap.size) :
    Calls Tryz.prog 36 #[.pointer (some ⟨b, 0, none⟩), .iface 137 (.pointer (some ⟨n, 0, none⟩))] w (PostDo lo w M b (Pl.doUpdate D s)) := by
  obtain ⟨u, v, ps, hn, hps, hu, hv⟩ := cst_update hc hk
  have hb0 : Below w.heap.size w (w.alloc boxO) := (Below.refl _ _).alloc (Nat.le_refl _) _
  have HI := hide (U (w.heap.size + 1) (w.alloc boxO) M b n lay D s ps u v (h.below hb0) (below_blk hb0 (lt_of_blk hn) hn) hps (hu.below hb0) ((hv.keep (fun k hk => hb0.block k hk)).more hb0.size) hs hk (by simp))
  have HD := hide (ch_done (o := Pl.doUpdate D s) h.db hlo (update_rows D s))
  generalize Pl.doUpdate D s = out at *
  have a1 := as_uc (w.alloc boxO) (.pointer (some ⟨n, 0, none⟩))
  have a2 := as_ui (w.alloc boxO) (.pointer (some ⟨n, 0, none⟩))
  have a3 := as_ud (w.alloc boxO) (.pointer (some ⟨n, 0, none⟩))
  have a4 := as_uu (w.alloc boxO) (.pointer (some ⟨n, 0, none⟩))
  clear hc hn hu hv hps hb0 h hs U
  generalize PostDo lo w M b out = Post at *
  go_enter Tryz.func36, Tryz.ntmps36
  go_wp2_with fail
  refine (unhide HI).mono ?_
  rintro e w1 ⟨rfl, hp⟩
  obtain ⟨hx, he⟩ := HD.out w1 hp
  have x0 := blk_cell hx 0
  have x1 := blk_cell hx 1
  have xf0 := blk_frozen hx 0
  have xf1 := blk_frozen hx 1
  simp at x0 x1
  have hxz := lt_of_blk hx
  have HE := hide he
  have HX := hide hx
  clear he hp HD HI hx
  go_wp2_with fail
  refine bodyPost_ret (v := .tuple #[.agg #[.slice none 0 0, .int .i64 out.2.count], .int .i64 (out.2.err : Nat)]) ?_ rfl (HE.out _ ((((But.refl _ _).set 1 (.int .i64 out.2.count)).set 0 (.slice none 0 0)).set 1 (.int .i64 out.2.count)))
  have rb := (blk_set (blk_set (blk_set HX.out 1 (.int .i64 out.2.count)) 0 (.slice none 0 0)) 1 (.int .i64 out.2.count))
  have r0 := blk_cell rb 0
  have r1 := blk_cell rb 1
  simp at r0 r1
  simp [results, Tryz.results36, go_sem, r0, r1]
set_option maxHeartbeats 4000000 in
set_option maxRecDepth 100000 in
theorem do_create (lo : Nat) (w : World) (M : Nat → Prop) (b n rb base : Nat) (lay : List Lay) (D : Pl.DB) (s : Pl.St) (h : ExIn w M b lay D) (hc : CSt w rb base s n) (hs : Pl.okSt s) (hk : s.kind = 99) (hlo : lo ≤ base) (hbase : base ≤ w.heap.size) :
    Calls Tryz.prog 36 #[.pointer (some ⟨b, 0, none⟩), .iface 131 (.pointer (some ⟨n, 0, none⟩))] w (PostDo lo w M b (Pl.doCreate D s)) := by
  obtain ⟨cv, hn, hcv⟩ := cst_create hc hk
  have hb0 : Below w.heap.size w (w.alloc boxO) := (Below.refl _ _).alloc (Nat.le_refl _) _
  have HI := hide (createM lo s hs hk n base cv (w.alloc boxO) M b lay D (h.below hb0).db (by simp; omega) (below_blk hb0 (lt_of_blk hn) hn) (own_below hb0 hcv) (fun k hk => by have := (hcv.lt k hk).1; omega))
  have HD := hide (cr_done (lo := lo) (o := Pl.doCreate D s) h.db (create_rows D s))
  generalize Pl.doCreate D s = out at *
  have a1 := as_cc (w.alloc boxO) (.pointer (some ⟨n, 0, none⟩))
  clear hc hn hcv hb0 h hs
  generalize PostDo lo w M b out = Post at *
  go_enter Tryz.func36, Tryz.ntmps36
  go_wp2_with fail
  refine (unhide HI).mono ?_
  rintro e w1 ⟨rfl, hp⟩
  obtain ⟨hx, he⟩ := HD.out w1 hp
  have x0 := blk_cell hx 0
  have x1 := blk_cell hx 1
  have xf0 := blk_frozen hx 0
  have xf1 := blk_frozen hx 1
  simp at x0 x1
  have hxz := lt_of_blk hx
  have HE := hide he
  have HX := hide hx
  clear he hp HD HI hx
  go_wp2_with fail
  have rb := blk_set (blk_set HX.out 0 (.slice none 0 0)) 1 (.int .i64 0)
  simp at rb
  refine bodyPost_ret (v := .tuple #[.agg #[.slice none 0 0, .int .i64 0], .int .i64 (out.2.err : Nat)]) ?_ rfl (HE.out _ (((But.refl _ _).set 0 (.slice none 0 0)).set 1 (.int .i64 0)) rb)
  have r0 := blk_cell rb 0
  have r1 := blk_cell rb 1
  simp at r0 r1
  simp [results, Tryz.results36, go_sem, r0, r1]
set_option maxHeartbeats 4000000 in
set_option maxRecDepth 100000 in
theorem do_select (X : MachLib) (N : Nat) {L : Nat} (HSt : StableM N L) (hN1 : N ≤ 1048576) (lo : Nat) (w : World) (M : Nat → Prop) (b n rb base : Nat) (lay : List Lay) (D : Pl.DB) (s : Pl.St) (h : ExIn w M b lay D) (hc : CSt w rb base s n) (hs : Pl.okSt s) (hk : s.kind = 115) (hv : s.all = false → s.items ≠ [])
    (hN : ∀ is rows, Pl.joinsAll D [] [[]] is s.sources = .ok rows → rows.length ≤ N) (hO : s.distinct = true → OnceM) (hkL : s.keys.length ≤ L) (hpw : s.distinct = true → PowAt w) :
    Calls Tryz.prog 36 #[.pointer (some ⟨b, 0, none⟩), .iface 139 (.pointer (some ⟨n, 0, none⟩))] w (PostDo lo w M b (Pl.doSelect D s)) := by
  obtain ⟨ss, vs, ks, u, x, v, o, hsel⟩ := cst_select hc hs hk hv h.rules h.glob.2
  have hb0 : Below w.heap.size w (w.alloc boxO) := (Below.refl _ _).alloc (Nat.le_refl _) _
  have HI := hide (chooseM X N HSt hN1 (w.alloc boxO) M b n lay D s ss vs ks u x v o (h.below hb0).db (hsel.below hb0) hN hO hkL (fun e => (hpw e).keep (hb0.block _ (hpw e).lt)))
  have HDb := hide h.db
  have HNo : Hid (∀ er, Pl.choose D s = .error er → Pl.doSelect D s = (D, Pl.no er)) := fun er => select_no hs hk
  have HYes : Hid (∀ rows, Pl.choose D s = .ok rows → Pl.doSelect D s = (D, ⟨rows, 0, 0⟩)) := fun rows => select_yes hs hk
  have a1 := as_sc (w.alloc boxO) (.pointer (some ⟨n, 0, none⟩))
  have a2 := as_si (w.alloc boxO) (.pointer (some ⟨n, 0, none⟩))
  have a3 := as_sd (w.alloc boxO) (.pointer (some ⟨n, 0, none⟩))
  have a4 := as_su (w.alloc boxO) (.pointer (some ⟨n, 0, none⟩))
  have a5 := as_ss (w.alloc boxO) (.pointer (some ⟨n, 0, none⟩))
  clear hc hsel hb0 h hs hN hO HSt hv hkL hpw
  go_enter Tryz.func36, Tryz.ntmps36
  go_wp2_with fail
  refine (unhide HI).mono ?_
  rintro e w1 ⟨hb1, hp⟩
  simp only [World.size_alloc] at hb1 hp
  rcases hp with ⟨er, her, rfl⟩ | ⟨qs, rv, hok, rfl, hown, hnew⟩
  · obtain ⟨hx, he⟩ := sel_err (lo := lo) (er := er) HDb.out hb1
    rw [← HNo.out er her] at he
    have x0 := blk_cell hx 0
    have x1 := blk_cell hx 1
    have xf0 := blk_frozen hx 0
    have xf1 := blk_frozen hx 1
    simp at x0 x1
    have hxz := lt_of_blk hx
    have HE := hide he
    have HX := hide hx
    clear he her hb1 HI hx
    go_wp2_with fail
    refine bodyPost_ret (v := .tuple #[.agg #[.slice none 0 0, .int .i64 0], .int .i64 (er : Nat)]) ?_ rfl (HE.out _ ((((But.refl _ _).set 0 (.slice none 0 0)).set 0 (.slice none 0 0)).set 1 (.int .i64 0)))
    have rb := (blk_set (blk_set (blk_set HX.out 0 (.slice none 0 0)) 0 (.slice none 0 0)) 1 (.int .i64 0))
    have r0 := blk_cell rb 0
    have r1 := blk_cell rb 1
    simp at r0 r1
    simp [results, Tryz.results36, go_sem, r0, r1]
  · obtain ⟨hx, he⟩ := sel_done (lo := lo) (rows := qs.map (·.1)) (rv := rv) HDb.out hb1 ⟨qs, rfl, hown, hnew, .inr rfl⟩
    rw [← HYes.out _ hok] at he
    obtain ⟨ra, rc, rfl⟩ := own_slice1 hown
    have x0 := blk_cell hx 0
    have x1 := blk_cell hx 1
    have xf0 := blk_frozen hx 0
    have xf1 := blk_frozen hx 1
    simp at x0 x1
    have hxz := lt_of_blk hx
    have HE := hide he
    have HX := hide hx
    clear he hok hb1 HI hx hown hnew
    go_wp2_with fail
    refine bodyPost_ret (v := .tuple #[.agg #[.slice ra qs.length rc, .int .i64 0], .int .i64 0]) ?_ rfl (HE.out _ ((((But.refl _ _).set 0 (.slice ra qs.length rc)).set 0 (.slice ra qs.length rc)).set 1 (.int .i64 0)))
    have rb := (blk_set (blk_set (blk_set HX.out 0 (.slice ra qs.length rc)) 0 (.slice ra qs.length rc)) 1 (.int .i64 0))
    have r0 := blk_cell rb 0
    have r1 := blk_cell rb 1
    simp at r0 r1
    simp [results, Tryz.results36, go_sem, r0, r1]
end Go.Proofs.YtojdpjpldokjmaaGreatDoor
