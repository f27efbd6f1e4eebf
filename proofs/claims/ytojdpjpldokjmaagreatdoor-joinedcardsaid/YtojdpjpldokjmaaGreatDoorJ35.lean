/- The code's Exec. -/
import Derived.Test.YtojdpjpldokjmaaGreatDoorJ33
import Derived.Test.YtojdpjpldokjmaaGreatDoorJ34
import Derived.Test.YtojdpjpldokjmaaGreatDoorJ09
import Derived.Test.YtojdpjpldokjmaaGreatDoorJ10
import Derived.Test.YtojdpjpldokjmaaGreatDoorJ11
namespace Go.Proofs.YtojdpjpldokjmaaGreatDoor
open Go.RowKit Go.Deep
set_option linter.unusedSimpArgs false
set_option linter.unusedVariables false

/-- What a statement's doing leans on. -/
def DoOk (D : Pl.DB) (s : Pl.St) : Prop := (s.kind = 117 → UpdM) ∧ (s.kind = 115 → ∃ N L, StableM N L ∧ N ≤ 1048576 ∧ (∀ is rows, Pl.joinsAll D [] [[]] is s.sources = .ok rows → rows.length ≤ N) ∧ (s.distinct = true → OnceM) ∧ s.keys.length ≤ L)
theorem doM (X : MachLib) (lo : Nat) (w : World) (M : Nat → Prop) (b n rb base : Nat) (lay : List Lay) (D : Pl.DB) (s : Pl.St) (h : ExIn w M b lay D) (hc : CSt w rb base s n) (hs : Pl.okSt s) (hv : s.kind = 115 → s.all = false → s.items ≠ []) (hok : DoOk D s) (hlo : lo ≤ base) (hbase : base ≤ w.heap.size) (hpw : PowAt w) :
    Calls Tryz.prog 36 #[.pointer (some ⟨b, 0, none⟩), .iface (tyOf s.kind) (.pointer (some ⟨n, 0, none⟩))] w (PostDo lo w M b (Pl.doSt D s)) := by
  rcases hs.kind with hk | hk | hk | hk | hk
  · rw [doSt_99 hk, hk]; exact do_create lo w M b n rb base lay D s h hc hs hk hlo hbase
  · rw [doSt_105 hk, hk]; exact do_insert X lo w M b n rb base lay D s h hc hs hk (by omega)
  · rw [doSt_100 hk, hk]; exact do_delete X lo w M b n rb base lay D s h hc hs hk (by omega)
  · rw [doSt_117 hk, hk]; exact do_update (hok.1 hk) lo w M b n rb base lay D s h hc hs hk (by omega)
  · obtain ⟨N, L, h1, h2, h3, h4, h5⟩ := hok.2 hk
    rw [doSt_115 hk, hk]; exact do_select X N h1 h2 lo w M b n rb base lay D s h hc hs hk (hv hk) h3 h4 h5 (fun _ => hpw)
/-- An error's answer tells nothing else. -/
theorem doSt_err (D : Pl.DB) (s : Pl.St) : (Pl.doSt D s).2.err ≠ 0 → (Pl.doSt D s).2.rows = [] ∧ (Pl.doSt D s).2.count = 0 := by
  unfold Pl.doSt Pl.doCreate Pl.doInsert Pl.doDelete Pl.doUpdate Pl.doSelect
  repeat' split
  all_goals first
    | exact fun _ => ⟨rfl, rfl⟩
    | exact fun h => absurd rfl h
/-- A database that stands, and what its statements lean on. -/
structure Live (w : World) (M : Nat → Prop) (b : Nat) (lay : List Lay) (D : Pl.DB) : Prop where
  ex : ExIn w M b lay D
  spell : SpellAt w
  err : ErrAt w
  gs : ¬ M 1
  ge : ¬ M 8
  pow : PowAt w
  gp : ¬ M 5
theorem SpellAt.same {w w' : World} (h : SpellAt w) (hk : w'.heap[1]? = w.heap[1]?) : SpellAt w' := fun k hk' => by
  rw [World.cell?_of_block hk]; exact h k hk'
theorem ErrAt.same {w w' : World} (h : ErrAt w) (hk : w'.heap[8]? = w.heap[8]?) : ErrAt w' := by
  obtain ⟨te, pe, hc⟩ := h
  exact ⟨te, pe, by rw [World.cell?_of_block hk]; exact hc⟩
theorem ErrAt.lt {w : World} (h : ErrAt w) : 8 < w.heap.size := by
  obtain ⟨te, pe, hc⟩ := h
  exact lt_of_cell hc
theorem Live.below {w w' : World} {M : Nat → Prop} {b : Nat} {lay : List Lay} {D : Pl.DB} (h : Live w M b lay D) (hb : Below w.heap.size w w') : Live w' M b lay D :=
  ⟨h.ex.below hb, h.spell.below hb, h.err.below hb, h.gs, h.ge, h.pow.keep (hb.block _ h.pow.lt), h.gp⟩
/-- A database's statement is done. -/
theorem Live.step {w w' : World} {M M' : Nat → Prop} {b : Nat} {lay lay' : List Lay} {D D' : Pl.DB} (h : Live w M b lay D) (hs : DbStep w.heap.size w M b D' w' M' lay') : Live w' M' b lay' D' := by
  have hn : ∀ k, k < w.heap.size → ¬ M k → ¬ M' k := fun k hk hm hm' => by
    rcases hs.new k hm' with h1 | h1
    · exact hm h1
    · omega
  exact ⟨⟨hs.db, h.ex.rules.keep (hs.keep.block _ ⟨h.ex.glob.2, h.ex.glob.1⟩), hn _ h.ex.glob.2 h.ex.glob.1, Nat.lt_of_lt_of_le h.ex.glob.2 hs.keep.size⟩, h.spell.same (hs.keep.block _ ⟨h.spell.lt, h.gs⟩), h.err.same (hs.keep.block _ ⟨h.err.lt, h.ge⟩), hn _ h.spell.lt h.gs, hn _ h.err.lt h.ge, h.pow.keep (hs.keep.block _ ⟨h.pow.lt, h.gp⟩), hn _ h.pow.lt h.gp⟩
/-- What Exec leaves. -/
def PostEx (w : World) (M : Nat → Prop) (b : Nat) (o : Pl.DB × Pl.Ans) (e : Ending) (w' : World) : Prop := PostDo w.heap.size w M b o e w'
/-- A text may be done. -/
def ExecOk (D : Pl.DB) (l : List UInt8) : Prop := ∀ s, Pl.pParse l = some s → DoOk D s
theorem exec_some {D : Pl.DB} {l : List UInt8} {s : Pl.St} (h : Pl.pParse l = some s) : Pl.exec D l = Pl.doSt D s := by unfold Pl.exec; rw [h]
theorem exec_none {D : Pl.DB} {l : List UInt8} (h : Pl.pParse l = none) : Pl.exec D l = (D, Pl.no 1) := by unfold Pl.exec; rw [h]
/-- No statement: the end. -/
theorem ex_none {w w1 : World} {M : Nat → Prop} {b : Nat} {lay : List Lay} {D : Pl.DB} (h : DbW w M b lay D) (hb : Below (w.heap.size + 1) (w.alloc boxO) w1) : w1.heap[w.heap.size]? = some boxO ∧ ∀ w'', But w.heap.size w1 w'' → PostEx w M b (D, Pl.no 1) (.returned (.tuple #[.agg #[.slice none 0 0, .int .i64 0], .int .i64 1])) w'' :=
  sel_err (lo := w.heap.size) (er := 1) h hb
/-- A statement was done: the end. -/
theorem ex_done {w w1 w2 w3 : World} {o8 : Obj} {M M' : Nat → Prop} {b : Nat} {lay lay' : List Lay} {D : Pl.DB} {o : Pl.DB × Pl.Ans} (h : DbW w M b lay D) (hb : Below (w.heap.size + 1) (w.alloc boxO) w1) (hs : DbStep (w.heap.size + 1) w1 M b o.1 w2 M' lay') (h3 : But w.heap.size w2 w3) : DbStep w.heap.size w M b o.1 (w3.alloc o8) M' lay' := by
  have hz1 := hb.size
  have hz2 := hs.keep.size
  simp at hz1
  have hnb : ¬ M w.heap.size := fun hm => by have := h.lt _ hm; omega
  have hnb' : ¬ M' w.heap.size := fun hm => by
    rcases hs.new _ hm with h' | h'
    · exact hnb h'
    · omega
  have hz3 := h3.size
  have hk : ∀ k, k ≠ w.heap.size → k < w2.heap.size → (w3.alloc o8).heap[k]? = w2.heap[k]? := fun k hk hk2 => by
    rw [Below.heap_alloc _ _ _ (by omega), h3.block k hk]
  refine ⟨hs.db.keep (by simp; omega) (fun k hm => hk k (fun e => hnb' (e ▸ hm)) (hs.db.lt k hm)), hs.sub, fun k hk => (hs.new k hk).imp id (fun h => by omega), h3.os.trans (hs.keep.os.trans hb.os), h3.tape.trans (hs.keep.tape.trans hb.tape), h3.output.trans (hs.keep.output.trans hb.output), by simp; omega, fun k hk' => ?_⟩
  have := hk'.1
  rw [hk k (by omega) (by omega), hs.keep.block k ⟨by omega, hk'.2⟩, hb.block k (by omega), Below.heap_alloc _ _ _ this]
theorem ex_box {w w1 w2 : World} {M M' : Nat → Prop} {b : Nat} {lay lay' : List Lay} {D D' : Pl.DB} {lo : Nat} (h : DbW w M b lay D) (hb : Below (w.heap.size + 1) (w.alloc boxO) w1) (hs : DbStep lo w1 M b D' w2 M' lay') : w2.heap[w.heap.size]? = some boxO := by
  have hz1 := hb.size
  simp at hz1
  have hnb : ¬ M w.heap.size := fun hm => by have := h.lt _ hm; omega
  rw [hs.keep.block _ ⟨by omega, hnb⟩, hb.block _ (by omega), blk_new]
theorem OutW.slice {base : Nat} {w : World} {M M' : Nat → Prop} {rows : List (List Pl.V)} {rv : Value} (h : OutW base w M M' rows rv) : ∃ a c, rv = .slice a rows.length c := by
  obtain ⟨qs, h1, h2, _⟩ := h
  obtain ⟨a, c, h⟩ := own_slice1 h2
  exact ⟨a, c, by rw [h, h1, List.length_map]⟩

set_option maxHeartbeats 4000000 in
set_option maxRecDepth 100000 in
theorem execM (L : LexLib) (X : MachLib) (t : List UInt8) (w : World) (M : Nat → Prop) (b : Nat) (lay : List Lay) (D : Pl.DB) (h : Live w M b lay D) (ht : t.length ≤ 1048576) (hok : ExecOk D t) :
    Calls Tryz.prog 18 #[.pointer (some ⟨b, 0, none⟩), .string ⟨t.toArray⟩] w (PostEx w M b (Pl.exec D t)) := by
  have hb0 : Below w.heap.size w (w.alloc boxO) := (Below.refl _ _).alloc (Nat.le_refl _) _
  have HR := hide (readC L ⟨t.toArray⟩ (w.alloc boxO) (by simpa [ByteArray.size] using ht) (h.below hb0).spell (h.below hb0).err)
  have HL := hide h
  have HOk := hide hok
  clear hb0 h hok ht
  go_enter Tryz.func18, Tryz.ntmps18
  go_wp2_with fail
  refine (unhide HR).mono ?_
  rintro e w1 ⟨hb1, hp⟩
  simp only [World.size_alloc] at hb1 hp
  clear HR
  cases hpp : Pl.pParse t with
  | none =>
    rw [hpp] at hp
    simp only at hp
    subst hp
    obtain ⟨hx, he⟩ := ex_none HL.out.ex.db hb1
    rw [← exec_none hpp] at he
    have x0 := blk_cell hx 0
    have x1 := blk_cell hx 1
    have xf0 := blk_frozen hx 0
    have xf1 := blk_frozen hx 1
    simp at x0 x1
    have hxz := lt_of_blk hx
    have HE := hide he
    have HX := hide hx
    clear he hpp hb1 hx
    go_wp2_with fail
    refine bodyPost_ret (v := .tuple #[.agg #[.slice none 0 0, .int .i64 0], .int .i64 1]) ?_ rfl (HE.out _ (((But.refl _ _).set 0 (.slice none 0 0)).set 1 (.int .i64 0)))
    have rb := (blk_set (blk_set HX.out 0 (.slice none 0 0)) 1 (.int .i64 0))
    have r0 := blk_cell rb 0
    have r1 := blk_cell rb 1
    simp at r0 r1
    simp [results, Tryz.results18, go_sem, r0, r1]
  | some s =>
    rw [hpp] at hp
    simp only at hp
    obtain ⟨rb, n, rfl, hrb, hst⟩ := hp
    have hz1 := hb1.size
    simp only [World.size_alloc] at hz1
    have hb1' : Below w.heap.size w w1 := ((Below.refl _ _).alloc (Nat.le_refl _) boxO).trans (hb1.mono (by omega))
    have HDo := hide (doM X (w.heap.size + 1) w1 M b n rb (w.heap.size + 1) lay D s (HL.out.below hb1').ex hst (Pl.parse_ok hpp) (Pl.parse_vals hpp) (HOk.out s hpp) (Nat.le_refl _) hz1 (HL.out.below hb1').pow)
    have HErr := hide (doSt_err D s)
    have HEq : Hid (Pl.exec D t = Pl.doSt D s) := exec_some hpp
    generalize hout : Pl.doSt D s = out at *
    have HB1 := hide hb1
    clear hpp hst hb1 hrb hb1' hout
    go_wp2_with fail
    refine (unhide HDo).mono ?_
    rintro e w2 ⟨rv, M', lay', rfl, hs2, ho2⟩
    have hx := ex_box HL.out.ex.db HB1.out hs2
    have x0 := blk_cell hx 0
    have x1 := blk_cell hx 1
    have xf0 := blk_frozen hx 0
    have xf1 := blk_frozen hx 1
    simp at x0 x1
    have hxz := lt_of_blk hx
    have HX := hide hx
    obtain ⟨ra, rc, hrv⟩ := ho2.slice
    subst hrv
    have hz2 := hs2.keep.size
    have HOut : Hid (∀ o8 w3, But w.heap.size w2 w3 → OutW w.heap.size (w3.alloc o8) M M' out.2.rows (.slice ra out.2.rows.length rc)) := fun o8 w3 h3 => ho2.keep (fun k hk hk2 => by rw [Below.heap_alloc _ _ _ (by rw [h3.size]; exact hk2), h3.block k (by omega)]) (by omega)
    have HSt : Hid (∀ o8 w3, But w.heap.size w2 w3 → DbStep w.heap.size w M b out.1 (w3.alloc o8) M' lay') := fun o8 w3 h3 => ex_done HL.out.ex.db HB1.out hs2 h3
    by_cases h0 : out.2.err = 0
    · have HE : Hid (∀ o8 w3, But w.heap.size w2 w3 → PostEx w M b (Pl.exec D t) (.returned (.tuple #[.agg #[.slice ra out.2.rows.length rc, .int .i64 out.2.count], .int .i64 0])) (w3.alloc o8)) := fun o8 w3 h3 => by rw [HEq.out]; exact ⟨_, M', lay', by rw [h0]; rfl, HSt.out _ _ h3, HOut.out _ _ h3⟩
      rw [h0]
      clear HOut HSt hs2 ho2 HDo HErr hx h0
      generalize PostEx w M b (Pl.exec D t) = Post at *
      go_wp2_with fail
      refine bodyPost_ret (v := .tuple #[.agg #[.slice ra out.2.rows.length rc, .int .i64 out.2.count], .int .i64 0]) ?_ rfl (HE.out _ _ (((But.refl _ _).set 0 (.slice ra out.2.rows.length rc)).set 1 (.int .i64 out.2.count)))
      have rb := blk_alloc (blk_set (blk_set HX.out 0 (.slice ra out.2.rows.length rc)) 1 (.int .i64 out.2.count)) (.cells #[.slice ra out.2.rows.length rc, .int .i64 out.2.count] 36)
      have r0 := blk_cell rb 0
      have r1 := blk_cell rb 1
      simp at r0 r1
      simp [results, Tryz.results18, go_sem, r0, r1]
    · obtain ⟨hr, hcn⟩ := HErr.out h0
      have hne : ((out.2.err : Int) != 0) = true := by simp; omega
      have HE : Hid (∀ o8 w3, But w.heap.size w2 w3 → PostEx w M b (Pl.exec D t) (.returned (.tuple #[.agg #[.slice none 0 0, .int .i64 0], .int .i64 (out.2.err : Nat)])) (w3.alloc o8)) := fun o8 w3 h3 => by rw [HEq.out]; exact ⟨_, M', lay', by rw [hcn], HSt.out _ _ h3, by rw [hr]; exact OutW.nil _ _ _ _⟩
      clear HOut HSt hs2 ho2 HDo HErr hx hr hcn
      generalize PostEx w M b (Pl.exec D t) = Post at *
      go_wp2_with fail
      refine bodyPost_ret (v := .tuple #[.agg #[.slice none 0 0, .int .i64 0], .int .i64 (out.2.err : Nat)]) ?_ rfl (HE.out _ _ (((But.refl _ _).set 0 (.slice none 0 0)).set 1 (.int .i64 0)))
      have rb := blk_alloc (blk_set (blk_set HX.out 0 (.slice none 0 0)) 1 (.int .i64 0)) (.cells #[.slice ra out.2.rows.length rc, .int .i64 out.2.count] 36)
      have r0 := blk_cell rb 0
      have r1 := blk_cell rb 1
      simp at r0 r1
      simp [results, Tryz.results18, go_sem, r0, r1]
end Go.Proofs.YtojdpjpldokjmaaGreatDoor
/- The keeps' own: a statement asked, its answer kept. -/
namespace Go.Proofs.YtojdpjpldokjmaaGreatDoor
open Go.RowKit Go.Deep
set_option linter.unusedSimpArgs false
set_option linter.unusedVariables false

/-- From one world to a later one: of what is not M's all is as it was. -/
structure Stp (w : World) (M : Nat → Prop) (w' : World) (M' : Nat → Prop) : Prop where
  keep : KP (fun k => k < w.heap.size ∧ ¬ M k) w w'
  new : ∀ k, M' k → M k ∨ w.heap.size ≤ k
theorem Stp.refl (w : World) (M : Nat → Prop) : Stp w M w M := ⟨KP.refl _ _, fun k hk => .inl hk⟩
theorem Stp.below {w w' : World} (M : Nat → Prop) (hb : Below w.heap.size w w') : Stp w M w' M := ⟨⟨hb.os, hb.tape, hb.output, hb.size, fun k hk => hb.block k hk.1⟩, fun k hk => .inl hk⟩
theorem Stp.not {w w' : World} {M M' : Nat → Prop} (h : Stp w M w' M') {k : Nat} (hk : k < w.heap.size) (hm : ¬ M k) : ¬ M' k := fun hm' => by
  rcases h.new k hm' with h1 | h1
  · exact hm h1
  · omega
theorem Stp.trans {a b c : World} {A B C : Nat → Prop} (h : Stp a A b B) (k : Stp b B c C) : Stp a A c C := by
  have hz := h.keep.size
  refine ⟨⟨k.keep.os.trans h.keep.os, k.keep.tape.trans h.keep.tape, k.keep.output.trans h.keep.output, Nat.le_trans hz k.keep.size, fun i hi => (k.keep.block i ⟨by omega, h.not hi.1 hi.2⟩).trans (h.keep.block i hi)⟩, fun i hi => ?_⟩
  rcases k.new i hi with h1 | h1
  · exact h.new i h1
  · exact .inr (by omega)
theorem Stp.blk {w w' : World} {M M' : Nat → Prop} (h : Stp w M w' M') {k : Nat} {X : Obj} (hk : w.heap[k]? = some X) (hm : ¬ M k) : w'.heap[k]? = some X ∧ ¬ M' k :=
  ⟨(h.keep.block k ⟨lt_of_blk hk, hm⟩).trans hk, h.not (lt_of_blk hk) hm⟩
/-- Rows that came out, in memory that is no database's. -/
def Got (w : World) (M : Nat → Prop) (rows : List (List Pl.V)) (rv : Value) : Prop := ∃ qs : List Pl.PRow, rows = qs.map (·.1) ∧ w.ownsRow 0 32 1 rv qs.length (sndC qs) ∧ (∀ q ∈ qs, w.ownsRow 0 34 3 q.2 q.1.length (rowC q.1)) ∧ (∀ k, rv.ownBlock = some k → ¬ M k) ∧ ∀ q ∈ qs, ∀ k, q.2.ownBlock = some k → ¬ M k
theorem Got.step {w w' : World} {M M' : Nat → Prop} {rows : List (List Pl.V)} {rv : Value} (h : Got w M rows rv) (hs : Stp w M w' M') : Got w' M' rows rv := by
  obtain ⟨qs, h1, h2, h3, h4, h5⟩ := h
  exact ⟨qs, h1, own_at h2 (fun k hk => hs.keep.block k ⟨(h2.lt k hk).2, h4 k hk⟩), fun q hq => own_at (h3 q hq) (fun k hk => hs.keep.block k ⟨((h3 q hq).lt k hk).2, h5 q hq k hk⟩), fun k hk => hs.not (h2.lt k hk).2 (h4 k hk), fun q hq k hk => hs.not ((h3 q hq).lt k hk).2 (h5 q hq k hk)⟩
theorem Got.mat {w : World} {M : Nat → Prop} {rows : List (List Pl.V)} {rv : Value} (h : Got w M rows rv) : ∃ qs : List Pl.PRow, rows = qs.map (·.1) ∧ MatW w w.heap.size qs rv := by
  obtain ⟨qs, h1, h2, h3, _⟩ := h
  exact ⟨qs, h1, mat_own h2 (fun q hq => own_rows (f := vC) (fun _ => rfl) (h3 q hq) (Nat.le_refl _))⟩
theorem Got.slice {w : World} {M : Nat → Prop} {rows : List (List Pl.V)} {rv : Value} (h : Got w M rows rv) : ∃ a c, rv = .slice a rows.length c := by
  obtain ⟨qs, h1, h2, _⟩ := h
  obtain ⟨a, c, h⟩ := own_slice1 h2
  exact ⟨a, c, by rw [h, h1, List.length_map]⟩
theorem OutW.got {w w' : World} {M M' : Nat → Prop} {rows : List (List Pl.V)} {rv : Value} (h : OutW w.heap.size w' M M' rows rv) (hM : ∀ k, M k → k < w.heap.size) : Got w' M' rows rv := by
  obtain ⟨qs, h1, h2, h3, h4⟩ := h
  have hq : ∀ k, w.heap.size ≤ k → rv ≠ .slice none 0 0 → ¬ M' k := fun k hk hne => by
    rcases h4 with h4 | h4
    · exact absurd h4 hne
    · rw [h4]; intro hm; have := hM k hm; omega
  refine ⟨qs, h1, own_base h2 (Nat.zero_le _), fun q hq => own_base (h3.1 q hq) (Nat.zero_le _), fun k hk => hq k (h2.lt k hk).1 (by rintro rfl; cases hk), fun q hq' k hk => hq k ((h3.1 q hq').lt k hk).1 ?_⟩
  rintro rfl
  have : qs.length = 0 := by
    rcases h2.2 with ⟨_, h0⟩ | ⟨g, cap, cur, he, _⟩
    · exact h0
    · cases he
  rw [List.length_eq_zero_iff.1 this] at hq'
  cases hq'
theorem PostEx.got {w : World} {M : Nat → Prop} {b : Nat} {lay : List Lay} {D : Pl.DB} {o : Pl.DB × Pl.Ans} {e : Ending} {w' : World} (hl : Live w M b lay D) (h : PostEx w M b o e w') : ∃ rv M' lay', e = .returned (.tuple #[.agg #[rv, .int .i64 o.2.count], .int .i64 (o.2.err : Nat)]) ∧ Stp w M w' M' ∧ Live w' M' b lay' o.1 ∧ Got w' M' o.2.rows rv := by
  obtain ⟨rv, M', lay', h1, h2, h3⟩ := h
  exact ⟨rv, M', lay', h1, ⟨h2.keep, h2.new⟩, hl.step h2, h3.got hl.ex.db.lt⟩
/-- An answer, told by the plain text. -/
theorem execK (L : LexLib) (X : MachLib) {t : List UInt8} {w : World} {M : Nat → Prop} {b : Nat} {lay : List Lay} {D D' : Pl.DB} {ans : Pl.Ans} (h : Live w M b lay D) (ht : t.length ≤ 600) (hok : ExecOk D t) (ha : Pl.exec D t = (D', ans)) :
    Calls Tryz.prog 18 #[.pointer (some ⟨b, 0, none⟩), .string ⟨t.toArray⟩] w fun e w' => ∃ rv M' lay', e = .returned (.tuple #[.agg #[rv, .int .i64 ans.count], .int .i64 (ans.err : Nat)]) ∧ Stp w M w' M' ∧ Live w' M' b lay' D' ∧ Got w' M' ans.rows rv := by
  refine (execM L X t w M b lay D h (by omega) hok).mono ?_
  intro e w' hp
  rw [ha] at hp
  exact hp.got h
theorem stp_box {w w' : World} {M M' : Nat → Prop} (h : Stp w M w' M') (o : Obj) : Stp w M (w'.alloc o) M' := h.trans (Stp.below _ ((Below.refl _ _).alloc (Nat.le_refl _) _))
theorem live_box {w : World} {M : Nat → Prop} {b : Nat} {lay : List Lay} {D : Pl.DB} (h : Live w M b lay D) (o : Obj) : Live (w.alloc o) M b lay D := h.below ((Below.refl _ _).alloc (Nat.le_refl _) _)
theorem got_box {w : World} {M : Nat → Prop} {rows : List (List Pl.V)} {rv : Value} (h : Got w M rows rv) (o : Obj) : Got (w.alloc o) M rows rv := h.step (Stp.below _ ((Below.refl _ _).alloc (Nat.le_refl _) _))

set_option maxHeartbeats 1000000 in
set_option maxRecDepth 100000 in
theorem doesY (L : LexLib) (X : MachLib) {t : List UInt8} {w : World} {M : Nat → Prop} {b : Nat} {lay : List Lay} {D D' : Pl.DB} {ans : Pl.Ans} (h : Live w M b lay D) (ht : t.length ≤ 600) (hok : ExecOk D t) (ha : Pl.exec D t = (D', ans)) (h0 : ans.err = 0) :
    Calls Tryz.prog 15 #[.pointer (some ⟨b, 0, none⟩), .string ⟨t.toArray⟩] w fun e w' => e = .returned (.bool true) ∧ ∃ M' lay', Stp w M w' M' ∧ Live w' M' b lay' D' := by
  have HC := hide (execK L X h ht hok ha)
  clear h ht hok ha
  go_enter Tryz.func15, Tryz.ntmps15
  go_wp2_with fail
  refine (unhide HC).mono ?_
  rintro e w1 ⟨rv, M', lay', rfl, hs, hl, hg⟩
  obtain ⟨ra, rc, rfl⟩ := hg.slice
  rw [h0]
  have HS := hide hs
  have HL := hide hl
  clear hs hl hg HC
  go_wp2_with fail
  go_ret
  exact ⟨rfl, M', lay', stp_box HS.out _, live_box HL.out _⟩
set_option maxHeartbeats 1000000 in
set_option maxRecDepth 100000 in
theorem rowsY (L : LexLib) (X : MachLib) {t : List UInt8} {w : World} {M : Nat → Prop} {b : Nat} {lay : List Lay} {D D' : Pl.DB} {ans : Pl.Ans} (h : Live w M b lay D) (ht : t.length ≤ 600) (hok : ExecOk D t) (ha : Pl.exec D t = (D', ans)) (h0 : ans.err = 0) :
    Calls Tryz.prog 17 #[.pointer (some ⟨b, 0, none⟩), .string ⟨t.toArray⟩] w fun e w' => ∃ rv M' lay', e = .returned (.tuple #[rv, .bool true]) ∧ Stp w M w' M' ∧ Live w' M' b lay' D' ∧ Got w' M' ans.rows rv := by
  have HC := hide (execK L X h ht hok ha)
  clear h ht hok ha
  go_enter Tryz.func17, Tryz.ntmps17
  go_wp2_with fail
  refine (unhide HC).mono ?_
  rintro e w1 ⟨rv, M', lay', rfl, hs, hl, hg⟩
  obtain ⟨ra, rc, rfl⟩ := hg.slice
  rw [h0]
  have HS := hide hs
  have HL := hide hl
  have HG := hide hg
  clear hs hl hg HC
  go_wp2_with fail
  refine bodyPost_ret (v := .tuple #[.slice ra ans.rows.length rc, .bool true]) (by simp [results, Tryz.results17, go_sem]) rfl ⟨_, M', lay', rfl, stp_box HS.out _, live_box HL.out _, got_box HG.out _⟩
/-- The one row's values, read. -/
theorem Got.one {w : World} {M : Nat → Prop} {r : List Pl.V} {rv : Value} (h : Got w M [r] rv) : ∃ g c u, rv = .slice (some ⟨g, 0, none⟩) 1 c ∧ g < w.heap.size ∧ w.cell? ⟨g, 0, none⟩ = some u ∧ RowsW w w.heap.size 3 vC r u := by
  obtain ⟨qs, h1, h2, h3⟩ := h.mat
  match qs, h1 with
  | [q], h1 =>
    simp at h1
    subst h1
    obtain ⟨g, cap, he, hg, hc⟩ := h2.at1 (i := 0) (c := q) rfl
    exact ⟨g, cap, q.2, he, hg, hc, h3 q (by simp)⟩
end Go.Proofs.YtojdpjpldokjmaaGreatDoor
/- The keeps' own: a new database; which texts may be done. -/
namespace Go.Proofs.YtojdpjpldokjmaaGreatDoor
open Go.RowKit Go.Deep
set_option linter.unusedSimpArgs false
set_option linter.unusedVariables false

/-- The globals that the statements lean on. -/
structure Globs (w : World) : Prop where
  spell : SpellAt w
  err : ErrAt w
  rules : RulesAt w
  rlt : 9 < w.heap.size
  pow : PowAt w
theorem okDB_nil : Pl.okDB [] := ⟨by simp, by simp⟩
abbrev dbO : Obj := .cells #[.slice none 0 0] 77
def oneB (b : Nat) : Nat → Prop := fun k => k = b
theorem Live.new {w : World} (h : Globs w) : Live (w.alloc dbO) (oneB w.heap.size) w.heap.size [] [] := by
  have hb : Below w.heap.size w (w.alloc dbO) := (Below.refl _ _).alloc (Nat.le_refl _) _
  refine ⟨⟨⟨fun k hk => ?_, rfl, ⟨.slice none 0 0, blk_new _ _, own_nil, fun k hk => (by cases hk)⟩, rfl, fun i l t hl => (by simp at hl), fun i j l m _ hl => (by simp at hl), okDB_nil⟩, h.rules.keep (hb.block _ h.rlt), fun e => ?_, ?_⟩, h.spell.below hb, h.err.below hb, fun e => ?_, fun e => ?_, h.pow.keep (hb.block _ h.pow.lt), fun e => ?_⟩
  · cases hk; simp
  · have e' : 9 = w.heap.size := e
    have := h.rlt
    omega
  · have := h.rlt
    simp; omega
  · have e' : 1 = w.heap.size := e
    have := h.spell.lt
    omega
  · have e' : 8 = w.heap.size := e
    have := h.err.lt
    omega
  · have e' : 5 = w.heap.size := e
    have := h.pow.lt
    omega
set_option maxHeartbeats 1000000 in
set_option maxRecDepth 100000 in
theorem newM (w : World) : Calls Tryz.prog 14 #[] w fun e w' => e = .returned (.pointer (some ⟨w.heap.size, 0, none⟩)) ∧ w' = w.alloc dbO := by
  go_enter Tryz.func14, Tryz.ntmps14
  go_wp2_with fail
  go_ret
  exact ⟨rfl, rfl⟩
theorem ExecOk.of {D : Pl.DB} {t : List UInt8} {s : Pl.St} (hp : Pl.pParse t = some s) (h : DoOk D s) : ExecOk D t := fun s' hs' => by rw [hp] at hs'; cases hs'; exact h
theorem execOk_kind {D : Pl.DB} {t : List UInt8} {k : Int} (h : (Pl.pParse t).map (·.kind) = some k) (h1 : k ≠ 117) (h2 : k ≠ 115) : ExecOk D t := fun s hs => by
  rw [hs] at h
  simp at h
  exact ⟨fun e => absurd (h.symm.trans e) h1, fun e => absurd (h.symm.trans e) h2⟩
theorem execOk_sel1 (HS : StableM 19 600) {D : Pl.DB} {t : List UInt8} {s : Pl.St} (hp : Pl.pParse t = some s) (hk : s.kind ≠ 117) (hd : s.distinct = false) (hl : s.sources.length = 1) (hm : ∀ t ∈ D, t.rows.length ≤ 19) : ExecOk D t :=
  ExecOk.of hp ⟨fun e => absurd e hk, fun _ => ⟨19, 600, HS, by omega, fun is rows hj => by
    have := Pl.joinsAll_len hm (by omega) hj
    rw [hl] at this
    simpa using this, fun e => (by rw [hd] at e; cases e), (Pl.parse_ok hp).klen⟩⟩
/-- An answer kept in a box. -/
structure Bx (w : World) (M : Nat → Prop) (k : Nat) (rows : List (List Pl.V)) (rv : Value) (c : Int) : Prop where
  blk : w.heap[k]? = some (.cells #[rv, .int .i64 c] 36)
  not : ¬ M k
  got : Got w M rows rv
theorem Bx.step {w w' : World} {M M' : Nat → Prop} {k : Nat} {rows : List (List Pl.V)} {rv : Value} {c : Int} (h : Bx w M k rows rv c) (hs : Stp w M w' M') : Bx w' M' k rows rv c := ⟨(hs.blk h.blk h.not).1, (hs.blk h.blk h.not).2, h.got.step hs⟩
theorem Bx.new {w : World} {M : Nat → Prop} {b : Nat} {lay : List Lay} {D : Pl.DB} {rows : List (List Pl.V)} {rv : Value} (h : Live w M b lay D) (hg : Got w M rows rv) (c : Int) : Bx (w.alloc (.cells #[rv, .int .i64 c] 36)) M w.heap.size rows rv c :=
  ⟨blk_new _ _, fun hm => by have := h.ex.db.lt _ hm; omega, got_box hg _⟩
theorem Bx.below {w w' : World} {M : Nat → Prop} {k : Nat} {rows : List (List Pl.V)} {rv : Value} {c : Int} (h : Bx w M k rows rv c) (hb : Below w.heap.size w w') : Bx w' M k rows rv c := h.step (Stp.below _ hb)
theorem Bx.cells {w : World} {M : Nat → Prop} {k : Nat} {rows : List (List Pl.V)} {rv : Value} {c : Int} (h : Bx w M k rows rv c) : k < w.heap.size ∧ w.cell? ⟨k, 0, none⟩ = some rv ∧ w.cell? ⟨k, 1, none⟩ = some (.int .i64 c) := by
  have h0 := blk_cell h.blk 0
  have h1 := blk_cell h.blk 1
  simp at h0 h1
  exact ⟨lt_of_blk h.blk, h0, h1⟩
end Go.Proofs.YtojdpjpldokjmaaGreatDoor
/- The keeps' own: base, a database made of raw numbers. -/
namespace Go.Proofs.YtojdpjpldokjmaaGreatDoor
open Go.RowKit Go.Deep
set_option linter.unusedSimpArgs false
set_option linter.unusedVariables false

theorem pcA_x (k : Nat) (hk : k < 6) : [[78, 85, 76, 76], [48], [49], [50], [45, 51], [53]][k]? = some (Pl.pcA k).x := by
  match k, hk with
  | 0, _ => rfl
  | 1, _ => rfl
  | 2, _ => rfl
  | 3, _ => rfl
  | 4, _ => rfl
  | 5, _ => rfl
  | k + 6, hk => omega
theorem pcB_x (k : Nat) (hk : k < 5) : [[78, 85, 76, 76], [39, 120, 39], [39, 121, 39], [39, 102, 105, 118, 101, 39], [39, 39]][k]? = some (Pl.pcB k).x := by
  match k, hk with
  | 0, _ => rfl
  | 1, _ => rfl
  | 2, _ => rfl
  | 3, _ => rfl
  | 4, _ => rfl
  | k + 5, hk => omega
theorem pcC_x (k : Nat) (hk : k < 3) : [[78, 85, 76, 76], [84, 82, 85, 69], [70, 65, 76, 83, 69]][k]? = some (Pl.pcC k).x := by
  match k, hk with
  | 0, _ => rfl
  | 1, _ => rfl
  | 2, _ => rfl
  | k + 3, hk => omega
def bPreT : List UInt8 := [73, 78, 83, 69, 82, 84, 32, 73, 78, 84, 79, 32, 116, 32, 86, 65, 76, 85, 69, 83, 32, 40]
def bPreU : List UInt8 := [73, 78, 83, 69, 82, 84, 32, 73, 78, 84, 79, 32, 117, 32, 86, 65, 76, 85, 69, 83, 32, 40]
theorem bT_str (v : Nat) : (((((({ data := bPreT.toArray } : ByteArray) ++ { data := (Pl.pcA (v % 6)).x.toArray }) ++ { data := #[44, 32] }) ++ { data := (Pl.pcB (v / 8 % 5)).x.toArray }) ++ { data := #[44, 32] }) ++ { data := (Pl.pcC (v / 64 % 3)).x.toArray }) ++ { data := #[41] } = ⟨(Pl.insText Pl.nT ((Pl.bT v).map (·.x)) []).toArray⟩ := by
  rw [show (#[44, 32] : Array UInt8) = [44, 32].toArray from rfl, show (#[41] : Array UInt8) = [41].toArray from rfl]
  rw [ByteArray.mk_append_mk, ByteArray.mk_append_mk, ByteArray.mk_append_mk, ByteArray.mk_append_mk, ByteArray.mk_append_mk, ByteArray.mk_append_mk]
  simp [Pl.insText, Pl.bT, Pl.sepJoin, Pl.nT, bPreT]
theorem numP_nat (n : Nat) (h : n < 4) : Pl.numP (n : Int) = Pl.dec n := by
  unfold Pl.numP
  rw [if_neg (by omega), if_neg (by omega)]
  simp
theorem bU_str (v : Nat) : (((({ data := bPreU.toArray } : ByteArray) ++ { data := (Pl.pcA (v % 6)).x.toArray }) ++ { data := #[44, 32] }) ++ { data := (Pl.dec (v / 256 % 4)).toArray }) ++ { data := #[41] } = ⟨(Pl.insText Pl.nU ((Pl.bU v).map (·.x)) []).toArray⟩ := by
  rw [show (#[44, 32] : Array UInt8) = [44, 32].toArray from rfl, show (#[41] : Array UInt8) = [41].toArray from rfl]
  rw [ByteArray.mk_append_mk, ByteArray.mk_append_mk, ByteArray.mk_append_mk, ByteArray.mk_append_mk]
  have := numP_nat (v / 256 % 4) (by omega)
  simp [Pl.insText, Pl.bU, Pl.sepJoin, Pl.nU, bPreU, Pl.numPc] at this ⊢
  exact this.symm
/-- What base's loop keeps. -/
structure BaseI (raw : List Int) (w1 : World) (M1 : Nat → Prop) (bb : Nat) (i : Nat) (wr : World) : Prop where
  live : ∃ rt ru M lay, Live wr M bb lay (Pl.bTab rt ru) ∧ Stp w1 M1 wr M ∧ Pl.baseGo i (raw.drop i) rt ru = Pl.baseRows raw ∧ rt.length ≤ i + 1 ∧ ru.length ≤ i
theorem baseGo_end {raw : List Int} {i : Nat} {rt ru : List (List Pl.V)} (h : ¬ (i < raw.length ∧ i < 14)) : Pl.baseGo i (raw.drop i) rt ru = (rt, ru) := by
  by_cases hl : i < raw.length
  · rw [List.drop_eq_getElem_cons hl, Pl.baseGo, if_pos (by omega)]
  · rw [List.drop_eq_nil_of_le (by omega), Pl.baseGo]
theorem baseGo_T {raw : List Int} {i : Nat} {rt ru : List (List Pl.V)} (hl : i < raw.length) (h14 : i < 14) (h2 : i % 2 = 0) : Pl.baseGo i (raw.drop i) rt ru = Pl.baseGo (i + 1) (raw.drop (i + 1)) (rt ++ [Pl.rowT (Pl.pickN raw[i] 1099511627776)]) ru := by
  rw [List.drop_eq_getElem_cons hl, Pl.baseGo, if_neg (by omega), if_pos h2]
theorem baseGo_U {raw : List Int} {i : Nat} {rt ru : List (List Pl.V)} (hl : i < raw.length) (h14 : i < 14) (h2 : ¬ i % 2 = 0) : Pl.baseGo i (raw.drop i) rt ru = Pl.baseGo (i + 1) (raw.drop (i + 1)) rt (ru ++ [Pl.rowU (Pl.pickN raw[i] 1099511627776)]) := by
  rw [List.drop_eq_getElem_cons hl, Pl.baseGo, if_neg (by omega), if_neg h2]
theorem stp_own {w w1 w2 : World} {M0 M2 : Nat → Prop} {B : Nat} (h1 : Below B w w1) (hM : ∀ k, M0 k → B ≤ k) (h2 : Stp w1 M0 w2 M2) (hB : B ≤ w1.heap.size) : Below B w w2 :=
  h1.trans ⟨h2.keep.os, h2.keep.tape, h2.keep.output, h2.keep.size, fun k hk => h2.keep.block k ⟨by omega, fun hm => by have := hM k hm; omega⟩⟩
theorem ok_bT {rt ru : List (List Pl.V)} (v : Nat) : ExecOk (Pl.bTab rt ru) (Pl.insText Pl.nT ((Pl.bT v).map (·.x)) []) := execOk_kind (k := 105) (Pl.b_parseT v).2 (by decide) (by decide)
theorem ok_bU {rt ru : List (List Pl.V)} (v : Nat) : ExecOk (Pl.bTab rt ru) (Pl.insText Pl.nU ((Pl.bU v).map (·.x)) []) := execOk_kind (k := 105) (Pl.b_parseU v).2 (by decide) (by decide)

set_option maxHeartbeats 8000000 in
set_option maxRecDepth 100000 in
theorem baseM (L : LexLib) (X : MachLib) (raw : List Int) (v : Value) (w : World) (h : IntsAt w raw v) (hr : ∀ x ∈ raw, Pl.in64 x) (hg : Globs w) :
    Calls Tryz.prog 21 #[v] w fun e w' => e = .returned (.pointer (some ⟨w.heap.size, 0, none⟩)) ∧ Below w.heap.size w w' ∧ ∃ M lay, Live w' M w.heap.size lay (Pl.baseDb raw) ∧ ∀ k, M k → w.heap.size ≤ k := by
  have HG := hide hg
  have HI0 := hide h
  have HR := hide hr
  have HLex := hide L
  have HMach := hide X
  obtain ⟨a, c, rfl, _⟩ := h
  have hlen : raw.length ≤ raw.length := Nat.le_refl _
  clear hg hr L X
  go_enter Tryz.func21, Tryz.ntmps21
  go_wp2_with fail
  refine (newM w).mono ?_
  rintro e w1 ⟨rfl, rfl⟩
  have HL1 := hide (Live.new HG.out)
  have HN1 : Hid (∀ W M', Stp (w.alloc dbO) (oneB w.heap.size) W M' → Below w.heap.size w W ∧ ∀ k, M' k → w.heap.size ≤ k) := fun W M' h => ⟨stp_own ((Below.refl _ _).alloc (Nat.le_refl _) _) (fun k hk => Nat.le_of_eq (Eq.symm hk)) h (by simp), fun k hk => by
    rcases h.new k hk with h1 | h1
    · exact Nat.le_of_eq (Eq.symm h1)
    · simp at h1; omega⟩
  generalize w.alloc dbO = w1 at *
  generalize hbb : w.heap.size = bb at *
  have HBB := hide hbb
  generalize oneB bb = M1 at *
  have HC := hide (doesY HLex.out HMach.out HL1.out (t := Pl.bCreateT) (by decide) (execOk_kind (k := 99) (by kernel_rfl) (by decide) (by decide)) Pl.b_createT rfl)
  clear hbb
  go_wp2_with fail
  refine (unhide HC).mono ?_
  rintro e w2 ⟨rfl, M2, lay2, hs2, hl2⟩
  have HS2 := hide hs2
  have HC := hide (doesY HLex.out HMach.out hl2 (t := Pl.bCreateU) (by decide) (execOk_kind (k := 99) (by kernel_rfl) (by decide) (by decide)) Pl.b_createU rfl)
  clear hs2 hl2 HL1
  go_wp2_with fail
  refine (unhide HC).mono ?_
  rintro e w3 ⟨rfl, M3, lay3, hs3, hl3⟩
  have HS3 := hide (HS2.out.trans hs3)
  have HC := hide (doesY HLex.out HMach.out hl3 (t := Pl.bFirst) (by decide) (execOk_kind (k := 105) (by kernel_rfl) (by decide) (by decide)) Pl.b_first rfl)
  clear hs3 hl3 HS2
  go_wp2_with fail
  refine (unhide HC).mono ?_
  rintro e w4 ⟨rfl, M4, lay4, hs4, hl4⟩
  have HB0 : Hid (BaseI raw w1 M1 bb 0 w4) := ⟨⟨[Pl.row0], [], M4, lay4, hl4, HS3.out.trans hs4, rfl, by simp, by simp⟩⟩
  clear hs4 hl4 HC HS3
  go_wp2_with fail
  go_loopw [7] (fun s7 wr => ∃ (i : Nat), i ≤ raw.length ∧ i ≤ 14 ∧ s7 = .int .i64 (i : Nat) ∧ Hid (BaseI raw w1 M1 bb i wr)) (fun a _ => 14 - (intOf a).toNat)
  case atStart => exact ⟨0, Nat.zero_le _, by omega, rfl, HB0.out⟩
  case round =>
    obtain ⟨i, hi, hi14, rfl, HI⟩ := hrel
    clear HB0
    by_cases hin : i < raw.length ∧ i < 14
    · obtain ⟨hl, h14⟩ := hin
      obtain ⟨rt, ru, M, lay, hlive, hstp, hgo, hrt, hru⟩ := HI.out.live
      have hbw := (HN1.out _ _ hstp).1
      obtain ⟨a', c', he, h2⟩ := (HI0.out.below (by rw [HBB.out]; exact hbw) : IntsAt wr raw _)
      cases he
      obtain ⟨p, rfl, hp, hc⟩ := h2 (by rintro rfl; simp at hl)
      have hcx := hc i _ (List.getElem?_eq_getElem hl)
      have HP := hide (pickM raw[i] 1099511627776 wr (HR.out _ (List.getElem_mem hl)) (by omega) (by omega))
      rw [pickK_N] at HP
      have hpl := Pl.pickN_lt raw[i] (n := 1099511627776) (by omega)
      have HLv := hide hlive
      have HSt := hide hstp
      have HGo := hide hgo
      have HGT : Hid (∀ rt ru, i % 2 = 0 → Pl.baseGo i (raw.drop i) rt ru = _) := fun rt ru h => baseGo_T (ru := ru) (rt := rt) hl h14 h
      have HGU : Hid (∀ rt ru, ¬ i % 2 = 0 → Pl.baseGo i (raw.drop i) rt ru = _) := fun rt ru h => baseGo_U (ru := ru) (rt := rt) hl h14 h
      generalize Pl.pickN raw[i] 1099511627776 = vv at *
      generalize raw[i] = x at *
      clear hc h2 hlive hstp hgo hbw
      go_wp2_with fail
      refine (unhide HP).mono ?_
      rintro e w5 ⟨rfl, h5⟩
      rw [h5]
      clear h5 w5 HP
      have hcA := strs_cell wr _ (pcA_x (vv % 6) (by omega))
      have hcB := strs_cell (wr.alloc (strsO [[78, 85, 76, 76], [48], [49], [50], [45, 51], [53]])) _ (pcB_x (vv / 8 % 5) (by omega))
      have hcC := strs_cell ((wr.alloc (strsO [[78, 85, 76, 76], [48], [49], [50], [45, 51], [53]])).alloc (strsO [[78, 85, 76, 76], [39, 120, 39], [39, 121, 39], [39, 102, 105, 118, 101, 39], [39, 39]])) _ (pcC_x (vv / 64 % 3) (by omega))
      have HBL : Hid (∀ o1 o2 o3 : Obj, Below wr.heap.size wr (((wr.alloc o1).alloc o2).alloc o3)) := fun o1 o2 o3 => (((Below.refl _ _).alloc (Nat.le_refl _) _).alloc (by simp) _).alloc (by simp; omega) _
      have lA : (Pl.pcA (vv % 6)).x.length ≤ 60 := (Pl.goodA (vv % 6)).len
      have lB : (Pl.pcB (vv / 8 % 5)).x.length ≤ 60 := (Pl.goodB (vv / 8 % 5)).len
      have lC : (Pl.pcC (vv / 64 % 3)).x.length ≤ 60 := (Pl.goodC (vv / 64 % 3)).len
      simp only [strsO, List.map_cons, List.map_nil, World.size_alloc] at hcA hcB hcC
      by_cases h2 : i % 2 = 0
      · have HT := hide (bT_str vv)
        have HD : Hid (∀ W, Below wr.heap.size wr W → _) := fun W hW => doesY HLex.out HMach.out (HLv.out.below hW) (Pl.b_parseT vv).1 (ok_bT vv) (Pl.b_insT vv (by omega)) rfl
        have HNext : Hid (∀ W w6 M6 lay6, Below wr.heap.size wr W → Stp W M w6 M6 → Live w6 M6 bb lay6 (Pl.bTab (rt ++ [Pl.rowT vv]) ru) → BaseI raw w1 M1 bb (i + 1) w6) := fun W w6 M6 lay6 hW h1 h3 => ⟨⟨_, _, M6, lay6, h3, (HSt.out.trans (Stp.below _ hW)).trans h1, by rw [← HGT.out _ _ h2]; exact HGo.out, by simp; omega, by omega⟩⟩
        have g2 : ((i : Int) % 2 == 0) = true := by simp; omega
        generalize (Pl.pcA (vv % 6)).x = xA at *
        generalize (Pl.pcB (vv / 8 % 5)).x = xB at *
        generalize (Pl.pcC (vv / 64 % 3)).x = xC at *
        simp only [bPreT] at HT
        clear h2 HGT HGU
        go_wp2_with fail
        rw [HT.out]
        refine ((unhide HD) _ (HBL.out _ _ _)).mono ?_
        rintro e w6 ⟨rfl, M6, lay6, hs6, hl6⟩
        have HN := hide (HNext.out _ w6 M6 lay6 (HBL.out _ _ _) hs6 hl6)
        clear hs6 hl6 HD HNext hcA hcB hcC
        go_wp2_with fail
        go_roundw
        case rel => exact ⟨i + 1, by omega, by omega, by go_num, HN.out⟩
        case measure => simp [intOf]; omega
      · have HT := hide (bU_str vv)
        have HD : Hid (∀ W, Below wr.heap.size wr W → _) := fun W hW => doesY HLex.out HMach.out (HLv.out.below hW) (Pl.b_parseU vv).1 (ok_bU vv) (Pl.b_insU vv (by omega)) rfl
        have HNext : Hid (∀ W w6 M6 lay6, Below wr.heap.size wr W → Stp W M w6 M6 → Live w6 M6 bb lay6 (Pl.bTab rt (ru ++ [Pl.rowU vv])) → BaseI raw w1 M1 bb (i + 1) w6) := fun W w6 M6 lay6 hW h1 h3 => ⟨⟨_, _, M6, lay6, h3, (HSt.out.trans (Stp.below _ hW)).trans h1, by rw [← HGU.out _ _ h2]; exact HGo.out, by omega, by simp; omega⟩⟩
        have HDg : Hid (∀ W, Calls _ _ _ W _) := fun W => digitsM (vv / 256 % 4) W (by omega)
        have lD : (Pl.dec (vv / 256 % 4)).length ≤ 20 := (Pl.dec_ok (by omega)).2.2.2
        have g2 : ((i : Int) % 2 == 0) = false := by simp; omega
        generalize (Pl.pcA (vv % 6)).x = xA at *
        generalize (Pl.pcB (vv / 8 % 5)).x = xB at *
        generalize (Pl.pcC (vv / 64 % 3)).x = xC at *
        generalize Pl.dec (vv / 256 % 4) = xD at *
        simp only [bPreU] at HT
        clear h2 HGT HGU
        go_wp2_with fail
        refine ((unhide HDg) _).mono ?_
        rintro e w7 ⟨rfl, hb7⟩
        have HB7 : Hid (Below wr.heap.size wr w7) := (HBL.out _ _ _).trans (hb7.mono (HBL.out _ _ _).size)
        clear hb7 HDg hcA hcB hcC
        go_wp2_with fail
        rw [HT.out]
        refine ((unhide HD) _ HB7.out).mono ?_
        rintro e w6 ⟨rfl, M6, lay6, hs6, hl6⟩
        have HN := hide (HNext.out _ w6 M6 lay6 HB7.out hs6 hl6)
        clear hs6 hl6 HD HNext
        go_wp2_with fail
        go_roundw
        case rel => exact ⟨i + 1, by omega, by omega, by go_num, HN.out⟩
        case measure => simp [intOf]; omega
    · obtain ⟨rt, ru, M, lay, hlive, hstp, hgo, hrt, hru⟩ := HI.out.live
      have HE : Hid (Below w.heap.size w wr ∧ ∃ M lay, Live wr M w.heap.size lay (Pl.baseDb raw) ∧ ∀ k, M k → w.heap.size ≤ k) := by
        rw [baseGo_end hin] at hgo
        rw [HBB.out]
        refine ⟨(HN1.out _ _ hstp).1, M, lay, ?_, (HN1.out _ _ hstp).2⟩
        unfold Pl.baseDb
        rw [← hgo]
        exact hlive
      clear hlive hstp hgo
      by_cases hl : i < raw.length
      · have h14 : ¬ i < 14 := fun h => hin ⟨hl, h⟩
        go_wp2_with fail
        go_ret
        exact ⟨by rw [HBB.out]; rfl, HE.out⟩
      · go_wp2_with fail
        go_ret
        exact ⟨by rw [HBB.out]; rfl, HE.out⟩
end Go.Proofs.YtojdpjpldokjmaaGreatDoor
/- The keeps' own: same. -/
namespace Go.Proofs.YtojdpjpldokjmaaGreatDoor
open Go.RowKit Go.Deep
set_option linter.unusedSimpArgs false
set_option linter.unusedVariables false

/-- Rows in memory, only read, from some place of a block on. -/
def MatO (w : World) (rows : List (List Pl.V)) (v : Value) : Prop := ∃ a c, v = .slice a rows.length c ∧ rows.length ≤ c ∧ (rows ≠ [] → ∃ g o, a = some ⟨g, o, none⟩ ∧ g < w.heap.size ∧ ∀ (i : Nat) (r : List Pl.V), rows[i]? = some r → ∃ u, w.cell? ⟨g, o + i, none⟩ = some u ∧ RowsW w w.heap.size 3 vC r u)
theorem MatO.of {w : World} {qs : List Pl.PRow} {v : Value} (h : MatW w w.heap.size qs v) (hc : ∀ a n c, v = .slice a n c → n ≤ c) : MatO w (qs.map (·.1)) v := by
  obtain ⟨⟨a, c, rfl, h2⟩, h3⟩ := h
  refine ⟨a, c, by rw [List.length_map], by rw [List.length_map]; exact hc _ _ _ rfl, fun hn => ?_⟩
  obtain ⟨g, rfl, hg, h4⟩ := h2 (by rintro rfl; simp at hn)
  refine ⟨g, 0, rfl, hg, fun i r hr => ?_⟩
  rw [List.getElem?_map] at hr
  cases hq : qs[i]? with
  | none => rw [hq] at hr; cases hr
  | some q =>
    rw [hq] at hr
    cases hr
    have := h4 i q hq 0 q.2 rfl
    refine ⟨q.2, by simpa using this, h3 q (List.mem_of_getElem? hq)⟩
theorem Got.mato {w : World} {M : Nat → Prop} {rows : List (List Pl.V)} {rv : Value} (h : Got w M rows rv) : MatO w rows rv := by
  obtain ⟨qs, rfl, h2, h3, _⟩ := h
  refine MatO.of (mat_own h2 (fun q hq => own_rows (f := vC) (fun _ => rfl) (h3 q hq) (Nat.le_refl _))) (fun a n c e => ?_)
  obtain ⟨a', c', e', hc⟩ := own_cap h2
  rw [e] at e'
  cases e'
  exact hc
theorem MatO.below {w w' : World} {rows : List (List Pl.V)} {v : Value} (h : MatO w rows v) (hb : Below w.heap.size w w') : MatO w' rows v := by
  obtain ⟨a, c, h1, hc, h2⟩ := h
  refine ⟨a, c, h1, hc, fun hn => ?_⟩
  obtain ⟨g, o, h3, h4, h5⟩ := h2 hn
  refine ⟨g, o, h3, Nat.lt_of_lt_of_le h4 hb.size, fun i r hr => ?_⟩
  obtain ⟨u, h6, h7⟩ := h5 i r hr
  exact ⟨u, by rw [hb.cell h4]; exact h6, h7.below hb⟩
/-- The first row alone; all but it. -/
theorem MatO.first {w : World} {r : List Pl.V} {rs : List (List Pl.V)} {v : Value} (h : MatO w (r :: rs) v) : ∃ g o c, v = .slice (some ⟨g, o, none⟩) (rs.length + 1) c ∧ rs.length + 1 ≤ c ∧ g < w.heap.size ∧ MatO w [r] (.slice (some ⟨g, o, none⟩) 1 c) ∧ MatO w rs (.slice (some ⟨g, o + 1, none⟩) rs.length (c - 1)) := by
  obtain ⟨a, c, rfl, hc, h2⟩ := h
  obtain ⟨g, o, rfl, hg, h3⟩ := h2 (by simp)
  simp at hc
  refine ⟨g, o, c, by simp, hc, hg, ⟨_, c, rfl, by simp; omega, fun _ => ⟨g, o, rfl, hg, fun i x hx => ?_⟩⟩, ⟨_, c - 1, rfl, by omega, fun _ => ⟨g, o + 1, rfl, hg, fun i x hx => ?_⟩⟩⟩
  · have hi : i = 0 := by
      have := (List.getElem?_eq_some_iff.1 hx).1
      simpa using this
    subst hi
    exact h3 0 x (by simpa using hx)
  · have := h3 (i + 1) x (by simpa using hx)
    rw [show o + 1 + i = o + (i + 1) by omega]
    exact this
theorem neq_run (a b : Int) (c : ByteArray) (w : World) : Sem.run Tryz.prog (binOp .neq 34 (.agg #[.int .i64 a, .int .i64 b, .string c]) (.agg #[.int .i64 a, .int .i64 b, .string c])) w = .ok (.bool false) w := by
  simp [go_sem]

set_option maxHeartbeats 4000000 in
set_option maxRecDepth 100000 in
theorem sameY (rows : List (List Pl.V)) (v1 v2 : Value) (w : World) (h1 : MatO w rows v1) (h2 : MatO w rows v2) (hl : rows.length ≤ 100000) (hr : ∀ r ∈ rows, r.length ≤ 1000) :
    Calls Tryz.prog 25 #[v1, v2] w fun e w' => e = .returned (.bool true) ∧ Below w.heap.size w w' := by
  have H1 := hide h1
  have H2 := hide h2
  have HR := hide hr
  obtain ⟨a1, c1, rfl, _, _⟩ := h1
  obtain ⟨a2, c2, rfl, _, _⟩ := h2
  have hnq := neq_run
  clear hr
  go_enter Tryz.func25, Tryz.ntmps25
  go_wp2_with fail
  go_loopw [5] (fun s5 wr => ∃ (i : Nat), i ≤ rows.length ∧ s5 = .int .i64 (i : Nat) ∧ Hid (Below w.heap.size w wr)) (fun a _ => rows.length - (intOf a).toNat)
  case atStart => exact ⟨0, Nat.zero_le _, rfl, Below.refl _ _⟩
  case round =>
    obtain ⟨i, hi, rfl, HI⟩ := hrel
    by_cases hlt : i < rows.length
    · have hri : rows[i]? = some rows[i] := List.getElem?_eq_getElem hlt
      have hrl := HR.out _ (List.getElem_mem hlt)
      obtain ⟨_, _, e1, _, k1⟩ := H1.out.below HI.out
      obtain ⟨_, _, e2, _, k2⟩ := H2.out.below HI.out
      cases e1; cases e2
      have hne : rows ≠ [] := by rintro rfl; simp at hlt
      obtain ⟨g1, o1, rfl, z1, m1⟩ := k1 hne
      obtain ⟨g2, o2, rfl, z2, m2⟩ := k2 hne
      obtain ⟨u1, d1, r1⟩ := m1 i _ hri
      obtain ⟨u2, d2, r2⟩ := m2 i _ hri
      generalize rows[i] = r at *
      have HV1 : Hid (∀ k, k < r.length → _) := fun k hk => r1.val hk
      have HV2 : Hid (∀ k, k < r.length → _) := fun k hk => r2.val hk
      obtain ⟨b1, e1, f1⟩ := r1.slice
      obtain ⟨b2, e2, f2⟩ := r2.slice
      subst f1; subst f2
      clear m1 m2 r1 r2 hri k1 k2 hne
      go_wp2_with fail
      go_region
      all_goals go_wp2_with fail
      all_goals
        go_loopw [6] (fun s6 wz => ∃ (k : Nat), k ≤ r.length ∧ s6 = .int .i64 (k : Nat) ∧ Hid (Below wr.heap.size wr wz)) (fun a _ => r.length - (intOf a).toNat)
        case atStart => exact ⟨0, Nat.zero_le _, rfl, (Below.refl _ _).drew⟩
        case round =>
          obtain ⟨k, hk, rfl, HK⟩ := hrel
          have x1 := (HK.out.cell (p := ⟨g1, o1 + i, none⟩) z1).trans d1
          have x2 := (HK.out.cell (p := ⟨g2, o2 + i, none⟩) z2).trans d2
          by_cases hkl : k < r.length
          · obtain ⟨h1, _, e, y1, t0, t1, t2⟩ := HV1.out k hkl
            cases e
            obtain ⟨h2, _, e, y2, s0, s1, s2⟩ := HV2.out k hkl
            cases e
            have t0 := (HK.out.cell (p := ⟨h1, k * 3, none⟩) y1).trans t0
            have t1 := (HK.out.cell (p := ⟨h1, k * 3 + 1, none⟩) y1).trans t1
            have t2 := (HK.out.cell (p := ⟨h1, k * 3 + 2, none⟩) y1).trans t2
            have s0 := (HK.out.cell (p := ⟨h2, k * 3, none⟩) y2).trans s0
            have s1 := (HK.out.cell (p := ⟨h2, k * 3 + 1, none⟩) y2).trans s1
            have s2 := (HK.out.cell (p := ⟨h2, k * 3 + 2, none⟩) y2).trans s2
            generalize r[k] = x at *
            go_wp2_with fail
            go_region
            all_goals go_wp2_with fail
            all_goals
              go_roundw
              case rel => exact ⟨k + 1, by omega, by go_num, HK.out.drew⟩
              case measure => simp [intOf]; omega
          · have HB := hide (HI.out.trans (HK.out.mono HI.out.size))
            go_wp2_with fail
            go_roundw
            case rel => exact ⟨i + 1, by omega, by go_num, HB.out⟩
            case measure => simp [intOf]; omega
    · go_wp2_with fail
      go_ret
      exact ⟨rfl, HI.out⟩
end Go.Proofs.YtojdpjpldokjmaaGreatDoor
