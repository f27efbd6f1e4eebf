/- The code's Exec. -/
import Derived.Test.YtojdpjpldokjmaaGreatDoorG30
import Derived.Test.YtojdpjpldokjmaaGreatDoorG31
namespace Go.Proofs.YtojdpjpldokjmaaGreatDoor
open Go.RowKit Go.Deep
set_option linter.unusedSimpArgs false
set_option linter.unusedVariables false

/-- What a statement's doing leans on. -/
def DoOk (D : Pl.DB) (s : Pl.St) : Prop := (s.kind = 117 → UpdM) ∧ (s.kind = 115 → ∃ N, StableM N ∧ N ≤ 1048576 ∧ (∀ is rows, Pl.joinsAll D [] [[]] is s.sources = .ok rows → rows.length ≤ N) ∧ (s.distinct = true → OnceM))
theorem doM (X : MachLib) (lo : Nat) (w : World) (M : Nat → Prop) (b n rb base : Nat) (lay : List Lay) (D : Pl.DB) (s : Pl.St) (h : ExIn w M b lay D) (hc : CSt w rb base s n) (hs : Pl.okSt s) (hv : s.kind = 115 → s.all = false → s.items ≠ []) (hok : DoOk D s) (hlo : lo ≤ base) (hbase : base ≤ w.heap.size) :
    Calls Tryz.prog 36 #[.pointer (some ⟨b, 0, none⟩), .iface (tyOf s.kind) (.pointer (some ⟨n, 0, none⟩))] w (PostDo lo w M b (Pl.doSt D s)) := by
  rcases hs.kind with hk | hk | hk | hk | hk
  · rw [doSt_99 hk, hk]; exact do_create lo w M b n rb base lay D s h hc hs hk hlo hbase
  · rw [doSt_105 hk, hk]; exact do_insert X lo w M b n rb base lay D s h hc hs hk (by omega)
  · rw [doSt_100 hk, hk]; exact do_delete X lo w M b n rb base lay D s h hc hs hk (by omega)
  · rw [doSt_117 hk, hk]; exact do_update (hok.1 hk) lo w M b n rb base lay D s h hc hs hk (by omega)
  · obtain ⟨N, h1, h2, h3, h4⟩ := hok.2 hk
    rw [doSt_115 hk, hk]; exact do_select X N h1 h2 lo w M b n rb base lay D s h hc hs hk (hv hk) h3 h4
/-- An error's answer tells nothing else. -/
theorem doSt_err (D : Pl.DB) (s : Pl.St) : (Pl.doSt D s).2.err ≠ 0 → (Pl.doSt D s).2.rows = [] ∧ (Pl.doSt D s).2.count = 0 := by
  unfold Pl.doSt Pl.doCreate Pl.doInsert Pl.doDelete Pl.doUpdate Pl.doSelect
  repeat' split
  all_goals first
    | exact fun _ => ⟨rfl, rfl⟩
    | exact fun h => absurd rfl h
/-- A database that stands, and what its statements lean on. -/
structure Live (w : World) (M : Nat → Prop) (b : Nat) (lay : List Lay) (D : Pl.DB) : Prop where
  ex : ExIn w M b lay D
  spell : SpellAt w
  err : ErrAt w
  gs : ¬ M 1
  ge : ¬ M 8
theorem SpellAt.same {w w' : World} (h : SpellAt w) (hk : w'.heap[1]? = w.heap[1]?) : SpellAt w' := fun k hk' => by
  rw [World.cell?_of_block hk]; exact h k hk'
theorem ErrAt.same {w w' : World} (h : ErrAt w) (hk : w'.heap[8]? = w.heap[8]?) : ErrAt w' := by
  obtain ⟨te, pe, hc⟩ := h
  exact ⟨te, pe, by rw [World.cell?_of_block hk]; exact hc⟩
theorem ErrAt.lt {w : World} (h : ErrAt w) : 8 < w.heap.size := by
  obtain ⟨te, pe, hc⟩ := h
  exact lt_of_cell hc
theorem Live.below {w w' : World} {M : Nat → Prop} {b : Nat} {lay : List Lay} {D : Pl.DB} (h : Live w M b lay D) (hb : Below w.heap.size w w') : Live w' M b lay D :=
  ⟨h.ex.below hb, h.spell.below hb, h.err.below hb, h.gs, h.ge⟩
/-- A database's statement is done. -/
theorem Live.step {w w' : World} {M M' : Nat → Prop} {b : Nat} {lay lay' : List Lay} {D D' : Pl.DB} (h : Live w M b lay D) (hs : DbStep w.heap.size w M b D' w' M' lay') : Live w' M' b lay' D' := by
  have hn : ∀ k, k < w.heap.size → ¬ M k → ¬ M' k := fun k hk hm hm' => by
    rcases hs.new k hm' with h1 | h1
    · exact hm h1
    · omega
  exact ⟨⟨hs.db, h.ex.rules.keep (hs.keep.block _ ⟨h.ex.glob.2, h.ex.glob.1⟩), hn _ h.ex.glob.2 h.ex.glob.1, Nat.lt_of_lt_of_le h.ex.glob.2 hs.keep.size⟩, h.spell.same (hs.keep.block _ ⟨h.spell.lt, h.gs⟩), h.err.same (hs.keep.block _ ⟨h.err.lt, h.ge⟩), hn _ h.spell.lt h.gs, hn _ h.err.lt h.ge⟩
/-- What Exec leaves. -/
def PostEx (w : World) (M : Nat → Prop) (b : Nat) (o : Pl.DB × Pl.Ans) (e : Ending) (w' : World) : Prop := PostDo w.heap.size w M b o e w'
/-- A text may be done. -/
def ExecOk (D : Pl.DB) (l : List UInt8) : Prop := ∀ s, Pl.pParse l = some s → DoOk D s
theorem exec_some {D : Pl.DB} {l : List UInt8} {s : Pl.St} (h : Pl.pParse l = some s) : Pl.exec D l = Pl.doSt D s := by unfold Pl.exec; rw [h]
theorem exec_none {D : Pl.DB} {l : List UInt8} (h : Pl.pParse l = none) : Pl.exec D l = (D, Pl.no 1) := by unfold Pl.exec; rw [h]
/-- No statement: the end. -/
theorem ex_none {w w1 : World} {M : Nat → Prop} {b : Nat} {lay : List Lay} {D : Pl.DB} (h : DbW w M b lay D) (hb : Below (w.heap.size + 1) (w.alloc boxO) w1) : w1.heap[w.heap.size]? = some boxO ∧ ∀ w'', But w.heap.size w1 w'' → PostEx w M b (D, Pl.no 1) (.returned (.tuple #[.agg #[.slice none 0 0, .int .i64 0], .int .i64 1])) w'' :=
  sel_err (lo := w.heap.size) (er := 1) h hb
/-- A statement was done: the end. -/
theorem ex_done {w w1 w2 w3 : World} {o8 : Obj} {M M' : Nat → Prop} {b : Nat} {lay lay' : List Lay} {D : Pl.DB} {o : Pl.DB × Pl.Ans} (h : DbW w M b lay D) (hb : Below (w.heap.size + 1) (w.alloc boxO) w1) (hs : DbStep (w.heap.size + 1) w1 M b o.1 w2 M' lay') (h3 : But w.heap.size w2 w3) : DbStep w.heap.size w M b o.1 (w3.alloc o8) M' lay' := by
  have hz1 := hb.size
  have hz2 := hs.keep.size
  simp at hz1
  have hnb : ¬ M w.heap.size := fun hm => by have := h.lt _ hm; omega
  have hnb' : ¬ M' w.heap.size := fun hm => by
    rcases hs.new _ hm with h' | h'
    · exact hnb h'
    · omega
  have hz3 := h3.size
  have hk : ∀ k, k ≠ w.heap.size → k < w2.heap.size → (w3.alloc o8).heap[k]? = w2.heap[k]? := fun k hk hk2 => by
    rw [Below.heap_alloc _ _ _ (by omega), h3.block k hk]
  refine ⟨hs.db.keep (by simp; omega) (fun k hm => hk k (fun e => hnb' (e ▸ hm)) (hs.db.lt k hm)), hs.sub, fun k hk => (hs.new k hk).imp id (fun h => by omega), h3.os.trans (hs.keep.os.trans hb.os), h3.tape.trans (hs.keep.tape.trans hb.tape), h3.output.trans (hs.keep.output.trans hb.output), by simp; omega, fun k hk' => ?_⟩
  have := hk'.1
  rw [hk k (by omega) (by omega), hs.keep.block k ⟨by omega, hk'.2⟩, hb.block k (by omega), Below.heap_alloc _ _ _ this]
theorem ex_box {w w1 w2 : World} {M M' : Nat → Prop} {b : Nat} {lay lay' : List Lay} {D D' : Pl.DB} {lo : Nat} (h : DbW w M b lay D) (hb : Below (w.heap.size + 1) (w.alloc boxO) w1) (hs : DbStep lo w1 M b D' w2 M' lay') : w2.heap[w.heap.size]? = some boxO := by
  have hz1 := hb.size
  simp at hz1
  have hnb : ¬ M w.heap.size := fun hm => by have := h.lt _ hm; omega
  rw [hs.keep.block _ ⟨by omega, hnb⟩, hb.block _ (by omega), blk_new]
theorem OutW.slice {base : Nat} {w : World} {M M' : Nat → Prop} {rows : List (List Pl.V)} {rv : Value} (h : OutW base w M M' rows rv) : ∃ a c, rv = .slice a rows.length c := by
  obtain ⟨qs, h1, h2, _⟩ := h
  obtain ⟨a, c, h⟩ := own_slice1 h2
  exact ⟨a, c, by rw [h, h1, List.length_map]⟩

set_option maxHeartbeats 4000000 in
set_option maxRecDepth 100000 in
theorem execM (L : LexLib) (X : MachLib) (t : List UInt8) (w : World) (M : Nat → Prop) (b : Nat) (lay : List Lay) (D : Pl.DB) (h : Live w M b lay D) (ht : t.length ≤ 1048576) (hok : ExecOk D t) :
    Calls Tryz.prog 18 #[.pointer (some ⟨b, 0, none⟩), .string ⟨t.toArray⟩] w (PostEx w M b (Pl.exec D t)) := by
  have hb0 : Below w.heap.size w (w.alloc boxO) := (Below.refl _ _).alloc (Nat.le_refl _) _
  have HR := hide (readC L ⟨t.toArray⟩ (w.alloc boxO) (by simpa [ByteArray.size] using ht) (h.below hb0).spell (h.below hb0).err)
  have HL := hide h
  have HOk := hide hok
  clear hb0 h hok ht
  go_enter Tryz.func18, Tryz.ntmps18
  go_wp2_with fail
  refine (unhide HR).mono ?_
  rintro e w1 ⟨hb1, hp⟩
  simp only [World.size_alloc] at hb1 hp
  clear HR
  cases hpp : Pl.pParse t with
  | none =>
    rw [hpp] at hp
    simp only at hp
    subst hp
    obtain ⟨hx, he⟩ := ex_none HL.out.ex.db hb1
    rw [← exec_none hpp] at he
    have x0 := blk_cell hx 0
    have x1 := blk_cell hx 1
    have xf0 := blk_frozen hx 0
    have xf1 := blk_frozen hx 1
    simp at x0 x1
    have hxz := lt_of_blk hx
    have HE := hide he
    have HX := hide hx
    clear he hpp hb1 hx
    go_wp2_with fail
    refine bodyPost_ret (v := .tuple #[.agg #[.slice none 0 0, .int .i64 0], .int .i64 1]) ?_ rfl (HE.out _ (((But.refl _ _).set 0 (.slice none 0 0)).set 1 (.int .i64 0)))
    have rb := (blk_set (blk_set HX.out 0 (.slice none 0 0)) 1 (.int .i64 0))
    have r0 := blk_cell rb 0
    have r1 := blk_cell rb 1
    simp at r0 r1
    simp [results, Tryz.results18, go_sem, r0, r1]
  | some s =>
    rw [hpp] at hp
    simp only at hp
    obtain ⟨rb, n, rfl, hrb, hst⟩ := hp
    have hz1 := hb1.size
    simp only [World.size_alloc] at hz1
    have hb1' : Below w.heap.size w w1 := ((Below.refl _ _).alloc (Nat.le_refl _) boxO).trans (hb1.mono (by omega))
    have HDo := hide (doM X (w.heap.size + 1) w1 M b n rb (w.heap.size + 1) lay D s (HL.out.below hb1').ex hst (Pl.parse_ok hpp) (Pl.parse_vals hpp) (HOk.out s hpp) (Nat.le_refl _) hz1)
    have HErr := hide (doSt_err D s)
    have HEq : Hid (Pl.exec D t = Pl.doSt D s) := exec_some hpp
    generalize hout : Pl.doSt D s = out at *
    have HB1 := hide hb1
    clear hpp hst hb1 hrb hb1' hout
    go_wp2_with fail
    refine (unhide HDo).mono ?_
    rintro e w2 ⟨rv, M', lay', rfl, hs2, ho2⟩
    have hx := ex_box HL.out.ex.db HB1.out hs2
    have x0 := blk_cell hx 0
    have x1 := blk_cell hx 1
    have xf0 := blk_frozen hx 0
    have xf1 := blk_frozen hx 1
    simp at x0 x1
    have hxz := lt_of_blk hx
    have HX := hide hx
    obtain ⟨ra, rc, hrv⟩ := ho2.slice
    subst hrv
    have hz2 := hs2.keep.size
    have HOut : Hid (∀ o8 w3, But w.heap.size w2 w3 → OutW w.heap.size (w3.alloc o8) M M' out.2.rows (.slice ra out.2.rows.length rc)) := fun o8 w3 h3 => ho2.keep (fun k hk hk2 => by rw [Below.heap_alloc _ _ _ (by rw [h3.size]; exact hk2), h3.block k (by omega)]) (by omega)
    have HSt : Hid (∀ o8 w3, But w.heap.size w2 w3 → DbStep w.heap.size w M b out.1 (w3.alloc o8) M' lay') := fun o8 w3 h3 => ex_done HL.out.ex.db HB1.out hs2 h3
    by_cases h0 : out.2.err = 0
    · have HE : Hid (∀ o8 w3, But w.heap.size w2 w3 → PostEx w M b (Pl.exec D t) (.returned (.tuple #[.agg #[.slice ra out.2.rows.length rc, .int .i64 out.2.count], .int .i64 0])) (w3.alloc o8)) := fun o8 w3 h3 => by rw [HEq.out]; exact ⟨_, M', lay', by rw [h0]; rfl, HSt.out _ _ h3, HOut.out _ _ h3⟩
      rw [h0]
      clear HOut HSt hs2 ho2 HDo HErr hx h0
      generalize PostEx w M b (Pl.exec D t) = Post at *
      go_wp2_with fail
      refine bodyPost_ret (v := .tuple #[.agg #[.slice ra out.2.rows.length rc, .int .i64 out.2.count], .int .i64 0]) ?_ rfl (HE.out _ _ (((But.refl _ _).set 0 (.slice ra out.2.rows.length rc)).set 1 (.int .i64 out.2.count)))
      have rb := blk_alloc (blk_set (blk_set HX.out 0 (.slice ra out.2.rows.length rc)) 1 (.int .i64 out.2.count)) (.cells #[.slice ra out.2.rows.length rc, .int .i64 out.2.count] 36)
      have r0 := blk_cell rb 0
      have r1 := blk_cell rb 1
      simp at r0 r1
      simp [results, Tryz.results18, go_sem, r0, r1]
    · obtain ⟨hr, hcn⟩ := HErr.out h0
      have hne : ((out.2.err : Int) != 0) = true := by simp; omega
      have HE : Hid (∀ o8 w3, But w.heap.size w2 w3 → PostEx w M b (Pl.exec D t) (.returned (.tuple #[.agg #[.slice none 0 0, .int .i64 0], .int .i64 (out.2.err : Nat)])) (w3.alloc o8)) := fun o8 w3 h3 => by rw [HEq.out]; exact ⟨_, M', lay', by rw [hcn], HSt.out _ _ h3, by rw [hr]; exact OutW.nil _ _ _ _⟩
      clear HOut HSt hs2 ho2 HDo HErr hx hr hcn
      generalize PostEx w M b (Pl.exec D t) = Post at *
      go_wp2_with fail
      refine bodyPost_ret (v := .tuple #[.agg #[.slice none 0 0, .int .i64 0], .int .i64 (out.2.err : Nat)]) ?_ rfl (HE.out _ _ (((But.refl _ _).set 0 (.slice none 0 0)).set 1 (.int .i64 0)))
      have rb := blk_alloc (blk_set (blk_set HX.out 0 (.slice none 0 0)) 1 (.int .i64 0)) (.cells #[.slice ra out.2.rows.length rc, .int .i64 out.2.count] 36)
      have r0 := blk_cell rb 0
      have r1 := blk_cell rb 1
      simp at r0 r1
      simp [results, Tryz.results18, go_sem, r0, r1]
end Go.Proofs.YtojdpjpldokjmaaGreatDoor
/- The keeps' own: a statement asked, its answer kept. -/
namespace Go.Proofs.YtojdpjpldokjmaaGreatDoor
open Go.RowKit Go.Deep
set_option linter.unusedSimpArgs false
set_option linter.unusedVariables false

/-- From one world to a later one: of what is not M's all is as it was. -/
structure Stp (w : World) (M : Nat → Prop) (w' : World) (M' : Nat → Prop) : Prop where
  keep : KP (fun k => k < w.heap.size ∧ ¬ M k) w w'
  new : ∀ k, M' k → M k ∨ w.heap.size ≤ k
theorem Stp.refl (w : World) (M : Nat → Prop) : Stp w M w M := ⟨KP.refl _ _, fun k hk => .inl hk⟩
theorem Stp.below {w w' : World} (M : Nat → Prop) (hb : Below w.heap.size w w') : Stp w M w' M := ⟨⟨hb.os, hb.tape, hb.output, hb.size, fun k hk => hb.block k hk.1⟩, fun k hk => .inl hk⟩
theorem Stp.not {w w' : World} {M M' : Nat → Prop} (h : Stp w M w' M') {k : Nat} (hk : k < w.heap.size) (hm : ¬ M k) : ¬ M' k := fun hm' => by
  rcases h.new k hm' with h1 | h1
  · exact hm h1
  · omega
theorem Stp.trans {a b c : World} {A B C : Nat → Prop} (h : Stp a A b B) (k : Stp b B c C) : Stp a A c C := by
  have hz := h.keep.size
  refine ⟨⟨k.keep.os.trans h.keep.os, k.keep.tape.trans h.keep.tape, k.keep.output.trans h.keep.output, Nat.le_trans hz k.keep.size, fun i hi => (k.keep.block i ⟨by omega, h.not hi.1 hi.2⟩).trans (h.keep.block i hi)⟩, fun i hi => ?_⟩
  rcases k.new i hi with h1 | h1
  · exact h.new i h1
  · exact .inr (by omega)
theorem Stp.blk {w w' : World} {M M' : Nat → Prop} (h : Stp w M w' M') {k : Nat} {X : Obj} (hk : w.heap[k]? = some X) (hm : ¬ M k) : w'.heap[k]? = some X ∧ ¬ M' k :=
  ⟨(h.keep.block k ⟨lt_of_blk hk, hm⟩).trans hk, h.not (lt_of_blk hk) hm⟩
/-- Rows that came out, in memory that is no database's. -/
def Got (w : World) (M : Nat → Prop) (rows : List (List Pl.V)) (rv : Value) : Prop := ∃ qs : List Pl.PRow, rows = qs.map (·.1) ∧ w.ownsRow 0 32 1 rv qs.length (sndC qs) ∧ (∀ q ∈ qs, w.ownsRow 0 34 3 q.2 q.1.length (rowC q.1)) ∧ (∀ k, rv.ownBlock = some k → ¬ M k) ∧ ∀ q ∈ qs, ∀ k, q.2.ownBlock = some k → ¬ M k
theorem Got.step {w w' : World} {M M' : Nat → Prop} {rows : List (List Pl.V)} {rv : Value} (h : Got w M rows rv) (hs : Stp w M w' M') : Got w' M' rows rv := by
  obtain ⟨qs, h1, h2, h3, h4, h5⟩ := h
  exact ⟨qs, h1, own_at h2 (fun k hk => hs.keep.block k ⟨(h2.lt k hk).2, h4 k hk⟩), fun q hq => own_at (h3 q hq) (fun k hk => hs.keep.block k ⟨((h3 q hq).lt k hk).2, h5 q hq k hk⟩), fun k hk => hs.not (h2.lt k hk).2 (h4 k hk), fun q hq k hk => hs.not ((h3 q hq).lt k hk).2 (h5 q hq k hk)⟩
theorem Got.mat {w : World} {M : Nat → Prop} {rows : List (List Pl.V)} {rv : Value} (h : Got w M rows rv) : ∃ qs : List Pl.PRow, rows = qs.map (·.1) ∧ MatW w w.heap.size qs rv := by
  obtain ⟨qs, h1, h2, h3, _⟩ := h
  exact ⟨qs, h1, mat_own h2 (fun q hq => own_rows (f := vC) (fun _ => rfl) (h3 q hq) (Nat.le_refl _))⟩
theorem Got.slice {w : World} {M : Nat → Prop} {rows : List (List Pl.V)} {rv : Value} (h : Got w M rows rv) : ∃ a c, rv = .slice a rows.length c := by
  obtain ⟨qs, h1, h2, _⟩ := h
  obtain ⟨a, c, h⟩ := own_slice1 h2
  exact ⟨a, c, by rw [h, h1, List.length_map]⟩
theorem OutW.got {w w' : World} {M M' : Nat → Prop} {rows : List (List Pl.V)} {rv : Value} (h : OutW w.heap.size w' M M' rows rv) (hM : ∀ k, M k → k < w.heap.size) : Got w' M' rows rv := by
  obtain ⟨qs, h1, h2, h3, h4⟩ := h
  have hq : ∀ k, w.heap.size ≤ k → rv ≠ .slice none 0 0 → ¬ M' k := fun k hk hne => by
    rcases h4 with h4 | h4
    · exact absurd h4 hne
    · rw [h4]; intro hm; have := hM k hm; omega
  refine ⟨qs, h1, own_base h2 (Nat.zero_le _), fun q hq => own_base (h3.1 q hq) (Nat.zero_le _), fun k hk => hq k (h2.lt k hk).1 (by rintro rfl; cases hk), fun q hq' k hk => hq k ((h3.1 q hq').lt k hk).1 ?_⟩
  rintro rfl
  have : qs.length = 0 := by
    rcases h2.2 with ⟨_, h0⟩ | ⟨g, cap, cur, he, _⟩
    · exact h0
    · cases he
  rw [List.length_eq_zero_iff.1 this] at hq'
  cases hq'
theorem PostEx.got {w : World} {M : Nat → Prop} {b : Nat} {lay : List Lay} {D : Pl.DB} {o : Pl.DB × Pl.Ans} {e : Ending} {w' : World} (hl : Live w M b lay D) (h : PostEx w M b o e w') : ∃ rv M' lay', e = .returned (.tuple #[.agg #[rv, .int .i64 o.2.count], .int .i64 (o.2.err : Nat)]) ∧ Stp w M w' M' ∧ Live w' M' b lay' o.1 ∧ Got w' M' o.2.rows rv := by
  obtain ⟨rv, M', lay', h1, h2, h3⟩ := h
  exact ⟨rv, M', lay', h1, ⟨h2.keep, h2.new⟩, hl.step h2, h3.got hl.ex.db.lt⟩
/-- An answer, told by the plain text. -/
theorem execK (L : LexLib) (X : MachLib) {t : List UInt8} {w : World} {M : Nat → Prop} {b : Nat} {lay : List Lay} {D D' : Pl.DB} {ans : Pl.Ans} (h : Live w M b lay D) (ht : t.length ≤ 600) (hok : ExecOk D t) (ha : Pl.exec D t = (D', ans)) :
    Calls Tryz.prog 18 #[.pointer (some ⟨b, 0, none⟩), .string ⟨t.toArray⟩] w fun e w' => ∃ rv M' lay', e = .returned (.tuple #[.agg #[rv, .int .i64 ans.count], .int .i64 (ans.err : Nat)]) ∧ Stp w M w' M' ∧ Live w' M' b lay' D' ∧ Got w' M' ans.rows rv := by
  refine (execM L X t w M b lay D h (by omega) hok).mono ?_
  intro e w' hp
  rw [ha] at hp
  exact hp.got h
theorem stp_box {w w' : World} {M M' : Nat → Prop} (h : Stp w M w' M') (o : Obj) : Stp w M (w'.alloc o) M' := h.trans (Stp.below _ ((Below.refl _ _).alloc (Nat.le_refl _) _))
theorem live_box {w : World} {M : Nat → Prop} {b : Nat} {lay : List Lay} {D : Pl.DB} (h : Live w M b lay D) (o : Obj) : Live (w.alloc o) M b lay D := h.below ((Below.refl _ _).alloc (Nat.le_refl _) _)
theorem got_box {w : World} {M : Nat → Prop} {rows : List (List Pl.V)} {rv : Value} (h : Got w M rows rv) (o : Obj) : Got (w.alloc o) M rows rv := h.step (Stp.below _ ((Below.refl _ _).alloc (Nat.le_refl _) _))

set_option maxHeartbeats 1000000 in
set_option maxRecDepth 100000 in
theorem doesY (L : LexLib) (X : MachLib) {t : List UInt8} {w : World} {M : Nat → Prop} {b : Nat} {lay : List Lay} {D D' : Pl.DB} {ans : Pl.Ans} (h : Live w M b lay D) (ht : t.length ≤ 600) (hok : ExecOk D t) (ha : Pl.exec D t = (D', ans)) (h0 : ans.err = 0) :
    Calls Tryz.prog 15 #[.pointer (some ⟨b, 0, none⟩), .string ⟨t.toArray⟩] w fun e w' => e = .returned (.bool true) ∧ ∃ M' lay', Stp w M w' M' ∧ Live w' M' b lay' D' := by
  have HC := hide (execK L X h ht hok ha)
  clear h ht hok ha
  go_enter Tryz.func15, Tryz.ntmps15
  go_wp2_with fail
  refine (unhide HC).mono ?_
  rintro e w1 ⟨rv, M', lay', rfl, hs, hl, hg⟩
  obtain ⟨ra, rc, rfl⟩ := hg.slice
  rw [h0]
  have HS := hide hs
  have HL := hide hl
  clear hs hl hg HC
  go_wp2_with fail
  go_ret
  exact ⟨rfl, M', lay', stp_box HS.out _, live_box HL.out _⟩
set_option maxHeartbeats 1000000 in
set_option maxRecDepth 100000 in
theorem rowsY (L : LexLib) (X : MachLib) {t : List UInt8} {w : World} {M : Nat → Prop} {b : Nat} {lay : List Lay} {D D' : Pl.DB} {ans : Pl.Ans} (h : Live w M b lay D) (ht : t.length ≤ 600) (hok : ExecOk D t) (ha : Pl.exec D t = (D', ans)) (h0 : ans.err = 0) :
    Calls Tryz.prog 17 #[.pointer (some ⟨b, 0, none⟩), .string ⟨t.toArray⟩] w fun e w' => ∃ rv M' lay', e = .returned (.tuple #[rv, .bool true]) ∧ Stp w M w' M' ∧ Live w' M' b lay' D' ∧ Got w' M' ans.rows rv := by
  have HC := hide (execK L X h ht hok ha)
  clear h ht hok ha
  go_enter Tryz.func17, Tryz.ntmps17
  go_wp2_with fail
  refine (unhide HC).mono ?_
  rintro e w1 ⟨rv, M', lay', rfl, hs, hl, hg⟩
  obtain ⟨ra, rc, rfl⟩ := hg.slice
  rw [h0]
  have HS := hide hs
  have HL := hide hl
  have HG := hide hg
  clear hs hl hg HC
  go_wp2_with fail
  refine bodyPost_ret (v := .tuple #[.slice ra ans.rows.length rc, .bool true]) (by simp [results, Tryz.results17, go_sem]) rfl ⟨_, M', lay', rfl, stp_box HS.out _, live_box HL.out _, got_box HG.out _⟩
/-- The one row's values, read. -/
theorem Got.one {w : World} {M : Nat → Prop} {r : List Pl.V} {rv : Value} (h : Got w M [r] rv) : ∃ g c u, rv = .slice (some ⟨g, 0, none⟩) 1 c ∧ g < w.heap.size ∧ w.cell? ⟨g, 0, none⟩ = some u ∧ RowsW w w.heap.size 3 vC r u := by
  obtain ⟨qs, h1, h2, h3⟩ := h.mat
  match qs, h1 with
  | [q], h1 =>
    simp at h1
    subst h1
    obtain ⟨g, cap, he, hg, hc⟩ := h2.at1 (i := 0) (c := q) rfl
    exact ⟨g, cap, q.2, he, hg, hc, h3 q (by simp)⟩
end Go.Proofs.YtojdpjpldokjmaaGreatDoor
