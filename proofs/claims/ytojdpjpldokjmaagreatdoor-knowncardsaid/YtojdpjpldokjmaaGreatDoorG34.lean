/- The keeps' own: a new database; which texts may be done. -/
import Derived.Test.YtojdpjpldokjmaaGreatDoorG09
import Derived.Test.YtojdpjpldokjmaaGreatDoorG32
import Derived.Test.YtojdpjpldokjmaaGreatDoorG33
namespace Go.Proofs.YtojdpjpldokjmaaGreatDoor
open Go.RowKit Go.Deep
set_option linter.unusedSimpArgs false
set_option linter.unusedVariables false

/-- The globals that the statements lean on. -/
structure Globs (w : World) : Prop where
  spell : SpellAt w
  err : ErrAt w
  rules : RulesAt w
  rlt : 9 < w.heap.size
theorem okDB_nil : Pl.okDB [] := ⟨by simp, by simp⟩
abbrev dbO : Obj := .cells #[.slice none 0 0] 77
def oneB (b : Nat) : Nat → Prop := fun k => k = b
theorem Live.new {w : World} (h : Globs w) : Live (w.alloc dbO) (oneB w.heap.size) w.heap.size [] [] := by
  have hb : Below w.heap.size w (w.alloc dbO) := (Below.refl _ _).alloc (Nat.le_refl _) _
  refine ⟨⟨⟨fun k hk => ?_, rfl, ⟨.slice none 0 0, blk_new _ _, own_nil, fun k hk => (by cases hk)⟩, rfl, fun i l t hl => (by simp at hl), fun i j l m _ hl => (by simp at hl), okDB_nil⟩, h.rules.keep (hb.block _ h.rlt), fun e => ?_, ?_⟩, h.spell.below hb, h.err.below hb, fun e => ?_, fun e => ?_⟩
  · cases hk; simp
  · have e' : 9 = w.heap.size := e
    have := h.rlt
    omega
  · have := h.rlt
    simp; omega
  · have e' : 1 = w.heap.size := e
    have := h.spell.lt
    omega
  · have e' : 8 = w.heap.size := e
    have := h.err.lt
    omega
set_option maxHeartbeats 1000000 in
set_option maxRecDepth 100000 in
theorem newM (w : World) : Calls Tryz.prog 14 #[] w fun e w' => e = .returned (.pointer (some ⟨w.heap.size, 0, none⟩)) ∧ w' = w.alloc dbO := by
  go_enter Tryz.func14, Tryz.ntmps14
  go_wp2_with fail
  go_ret
  exact ⟨rfl, rfl⟩
theorem ExecOk.of {D : Pl.DB} {t : List UInt8} {s : Pl.St} (hp : Pl.pParse t = some s) (h : DoOk D s) : ExecOk D t := fun s' hs' => by rw [hp] at hs'; cases hs'; exact h
theorem execOk_kind {D : Pl.DB} {t : List UInt8} {k : Int} (h : (Pl.pParse t).map (·.kind) = some k) (h1 : k ≠ 117) (h2 : k ≠ 115) : ExecOk D t := fun s hs => by
  rw [hs] at h
  simp at h
  exact ⟨fun e => absurd (h.symm.trans e) h1, fun e => absurd (h.symm.trans e) h2⟩
/-- An answer kept in a box. -/
structure Bx (w : World) (M : Nat → Prop) (k : Nat) (rows : List (List Pl.V)) (rv : Value) (c : Int) : Prop where
  blk : w.heap[k]? = some (.cells #[rv, .int .i64 c] 36)
  not : ¬ M k
  got : Got w M rows rv
theorem Bx.step {w w' : World} {M M' : Nat → Prop} {k : Nat} {rows : List (List Pl.V)} {rv : Value} {c : Int} (h : Bx w M k rows rv c) (hs : Stp w M w' M') : Bx w' M' k rows rv c := ⟨(hs.blk h.blk h.not).1, (hs.blk h.blk h.not).2, h.got.step hs⟩
theorem Bx.new {w : World} {M : Nat → Prop} {b : Nat} {lay : List Lay} {D : Pl.DB} {rows : List (List Pl.V)} {rv : Value} (h : Live w M b lay D) (hg : Got w M rows rv) (c : Int) : Bx (w.alloc (.cells #[rv, .int .i64 c] 36)) M w.heap.size rows rv c :=
  ⟨blk_new _ _, fun hm => by have := h.ex.db.lt _ hm; omega, got_box hg _⟩
theorem Bx.below {w w' : World} {M : Nat → Prop} {k : Nat} {rows : List (List Pl.V)} {rv : Value} {c : Int} (h : Bx w M k rows rv c) (hb : Below w.heap.size w w') : Bx w' M k rows rv c := h.step (Stp.below _ hb)
theorem Bx.cells {w : World} {M : Nat → Prop} {k : Nat} {rows : List (List Pl.V)} {rv : Value} {c : Int} (h : Bx w M k rows rv c) : k < w.heap.size ∧ w.cell? ⟨k, 0, none⟩ = some rv ∧ w.cell? ⟨k, 1, none⟩ = some (.int .i64 c) := by
  have h0 := blk_cell h.blk 0
  have h1 := blk_cell h.blk 1
  simp at h0 h1
  exact ⟨lt_of_blk h.blk, h0, h1⟩
end Go.Proofs.YtojdpjpldokjmaaGreatDoor
