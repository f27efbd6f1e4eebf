/- The keep Joined: its two lists of rows, as they grow. -/
import Derived.Test.YtojdpjpldokjmaaGreatDoorJ37
import Derived.Test.YtojdpjpldokjmaaGreatDoorJ31
import Derived.Test.YtojdpjpldokjmaaGreatDoorJ38
namespace Go.Proofs.YtojdpjpldokjmaaGreatDoor.Pl
theorem jOf_take {c : Nat} {ru : List (List V)} {r s : List V} {k : Nat} (h : ru[k]? = some s) : jOf c (ru.take (k + 1)) r = jOf c (ru.take k) r ++ if jYes c (r ++ s) = true then [r ++ s] else [] := by
  have hk := (List.getElem?_eq_some_iff.1 h)
  have : ru.take (k + 1) = ru.take k ++ [s] := by
    obtain ⟨h1, h2⟩ := hk
    rw [← h2]
    exact (List.take_append_getElem h1).symm
  unfold jOf
  rw [this, List.map_append, List.filter_append]
  congr 1
  cases hy : jYes c (r ++ s) <;> simp [hy]
theorem flat_take {f : List V → List (List V)} {rt : List (List V)} {r : List V} {i : Nat} (h : rt[i]? = some r) : (rt.take (i + 1)).flatMap f = (rt.take i).flatMap f ++ f r := by
  obtain ⟨h1, h2⟩ := List.getElem?_eq_some_iff.1 h
  have : rt.take (i + 1) = rt.take i ++ [r] := by
    rw [← h2]
    exact (List.take_append_getElem h1).symm
  rw [this, List.flatMap_append]
  simp
theorem jOf_row {c : Nat} {ru : List (List V)} {r x : List V} (hr : TRow r) (hu : ∀ q ∈ ru, URow q) (h : x ∈ jOf c ru r) : x.length ≤ 1000 := by
  unfold jOf at h
  obtain ⟨h1, _⟩ := List.mem_filter.1 h
  obtain ⟨s, hs, rfl⟩ := List.mem_map.1 h1
  obtain ⟨_, _, _, rfl, _⟩ := hr
  obtain ⟨_, _, rfl, _⟩ := hu s hs
  simp
theorem jOf_rows {c : Nat} {rt ru : List (List V)} (ht : ∀ r ∈ rt, TRow r) (hu : ∀ q ∈ ru, URow q) : ∀ x ∈ rt.flatMap (jOf c ru), x.length ≤ 1000 := fun x hx => by
  obtain ⟨r, hr, h⟩ := List.mem_flatMap.1 hx
  exact jOf_row (ht r hr) hu h
theorem jOuter_rows {c : Nat} {rt ru : List (List V)} (ht : ∀ r ∈ rt, TRow r) (hu : ∀ q ∈ ru, URow q) : ∀ x ∈ rt.flatMap (jOuter c ru), x.length ≤ 1000 := fun x hx => by
  obtain ⟨r, hr, h⟩ := List.mem_flatMap.1 hx
  unfold jOuter at h
  split at h
  · simp at h
    subst h
    obtain ⟨_, _, _, rfl, _⟩ := ht r hr
    simp
  · exact jOf_row (ht r hr) hu h
theorem j_three {c : Nat} (hc : c < 8) {r : List V} (h : JRow r) : (evJ c r = nul ∧ jYes c r = false) ∨ (evJ c r = tru false ∧ jYes c r = false) ∨ (evJ c r = tru true ∧ jYes c r = true) := by
  unfold jYes
  rcases (evJ_ok hc h).2 with e | ⟨b, e⟩
  · exact .inl ⟨e, by rw [e]; rfl⟩
  · cases b
    · exact .inr (.inl ⟨e, by rw [e]; rfl⟩)
    · exact .inr (.inr ⟨e, by rw [e]; rfl⟩)
end Go.Proofs.YtojdpjpldokjmaaGreatDoor.Pl
namespace Go.Proofs.YtojdpjpldokjmaaGreatDoor
open Go.RowKit Go.Deep
set_option linter.unusedSimpArgs false
set_option linter.unusedVariables false

/-- Rows in memory, only read, with room for each. -/
def MatC (w : World) (rows : List (List Pl.V)) (v : Value) : Prop := ∃ a c, v = .slice a rows.length c ∧ ∀ (i : Nat) (r : List Pl.V), rows[i]? = some r → ∃ g ua uc, a = some ⟨g, 0, none⟩ ∧ g < w.heap.size ∧ w.cell? ⟨g, i, none⟩ = some (.slice ua r.length uc) ∧ r.length ≤ uc ∧ RowsW w w.heap.size 3 vC r (.slice ua r.length uc)
theorem MatC.below {w w' : World} {rows : List (List Pl.V)} {v : Value} (h : MatC w rows v) (hb : Below w.heap.size w w') : MatC w' rows v := by
  obtain ⟨a, c, h1, h2⟩ := h
  refine ⟨a, c, h1, fun i r hr => ?_⟩
  obtain ⟨g, ua, uc, h3, h4, h5, h6, h7⟩ := h2 i r hr
  exact ⟨g, ua, uc, h3, Nat.lt_of_lt_of_le h4 hb.size, by rw [hb.cell h4]; exact h5, h6, h7.below hb⟩
theorem MatC.get {w W : World} {rows : List (List Pl.V)} {a : Option Addr} {n c : Nat} (h : MatC w rows (.slice a n c)) (hb : Below w.heap.size w W) {i : Nat} {r : List Pl.V} (hr : rows[i]? = some r) : ∃ g ua uc, a = some ⟨g, 0, none⟩ ∧ g < W.heap.size ∧ W.cell? ⟨g, i, none⟩ = some (.slice ua r.length uc) ∧ r.length ≤ uc ∧ RowsW W W.heap.size 3 vC r (.slice ua r.length uc) := by
  obtain ⟨a', c', e, h2⟩ := h.below hb
  cases e
  exact h2 i r hr
theorem Got.matc {w : World} {M : Nat → Prop} {rows : List (List Pl.V)} {rv : Value} (h : Got w M rows rv) : MatC w rows rv := by
  obtain ⟨qs, rfl, h2, h3, _⟩ := h
  obtain ⟨a, c, e, hc⟩ := own_cap h2
  subst e
  refine ⟨a, c, by rw [List.length_map], fun i r hr => ?_⟩
  rw [List.getElem?_map] at hr
  cases hq : qs[i]? with
  | none => rw [hq] at hr; cases hr
  | some q =>
    rw [hq] at hr
    cases hr
    have hm := mat_own h2 (fun q hq => own_rows (f := vC) (fun _ => rfl) (h3 q hq) (Nat.le_refl _))
    obtain ⟨⟨a', c', e', h4⟩, _⟩ := hm
    cases e'
    obtain ⟨g, rfl, hg, h5⟩ := h4 (by rintro rfl; simp at hq)
    obtain ⟨ua, uc, e2, hcc⟩ := own_cap (h3 q (List.mem_of_getElem? hq))
    have h6 := h5 i q hq 0 q.2 rfl
    rw [e2] at h6
    refine ⟨g, ua, uc, rfl, hg, by simpa using h6, hcc, ?_⟩
    rw [← e2]
    exact own_rows (f := vC) (fun _ => rfl) (h3 q (List.mem_of_getElem? hq)) (Nat.le_refl _)
/-- A row, its last value left out. -/
theorem RowsW.front {w : World} {hi : Nat} {r : List Pl.V} {x : Pl.V} {a : Option Addr} {n c : Nat} (h : RowsW w hi 3 vC (r ++ [x]) (.slice a n c)) : RowsW w hi 3 vC r (.slice a r.length c) := by
  obtain ⟨a', c', e, h2⟩ := h
  cases e
  refine ⟨_, _, rfl, fun hn => ?_⟩
  obtain ⟨g, hg, hl, h3⟩ := h2 (by simp)
  refine ⟨g, hg, hl, fun i v hv => h3 i v ?_⟩
  rw [List.getElem?_append_left (List.getElem?_eq_some_iff.1 hv).1]
  exact hv
/-- A row's cells, to be copied. -/
theorem RowsW.cells {w : World} {hi : Nat} {r : List Pl.V} {v : Value} (h : RowsW w hi 3 vC r v) (hr : r ≠ []) : ∃ g c, v = .slice (some ⟨g, 0, none⟩) r.length c ∧ g < hi ∧ ∀ j u, (rowC r)[j]? = some u → w.cell? ((⟨g, 0, none⟩ : Addr).add j) = some u := by
  obtain ⟨a, c, rfl, h2⟩ := h
  obtain ⟨g, rfl, hg, h3⟩ := h2 hr
  refine ⟨g, c, rfl, hg, fun j u hj => ?_⟩
  rw [addr_add]
  have hj1 : j / 3 < r.length := by
    have := (List.getElem?_eq_some_iff.1 hj).1
    rw [rowC_len] at this
    omega
  have h4 := h3 (j / 3) (r[j / 3]) (List.getElem?_eq_getElem hj1) (j % 3) u
  rw [show j / 3 * 3 + j % 3 = j by omega] at h4
  refine h4 ?_
  rw [← hj]
  have hk : j % 3 < (vC r[j / 3]).length := by simp [vC]; omega
  have := flat_at vC 3 (fun _ => rfl) r (j / 3) (j % 3) r[j / 3] _ (List.getElem?_eq_getElem hj1) (List.getElem?_eq_getElem hk)
  rw [show j / 3 * 3 + j % 3 = j by omega] at this
  rw [List.getElem?_eq_getElem hk]
  exact this.symm
/-- One row alone, in a block of its own. -/
theorem MatO.alone {w : World} {r : List Pl.V} {u : Value} {g : Nat} (hg : w.heap[g]? = some (.cells #[u] 32)) (h : RowsW w w.heap.size 3 vC r u) : MatO w [r] (.slice (some ⟨g, 0, none⟩) 1 1) :=
  ⟨_, 1, rfl, by simp, fun _ => ⟨g, 0, rfl, lt_of_blk hg, fun i x hx => by
    obtain rfl : i = 0 := by have := (List.getElem?_eq_some_iff.1 hx).1; simpa using this
    simp at hx
    subst hx
    exact ⟨u, by have := blk_cell hg 0; simpa using this, h⟩⟩⟩
/-- Two rows, each alone in a list: they are the same. -/
theorem same_pair {W : World} {x : List Pl.V} {u1 u2 : Value} (h1 : RowsW W W.heap.size 3 vC x u1) (h2 : RowsW W W.heap.size 3 vC x u2) (hl : x.length ≤ 1000) :
    Calls Tryz.prog 25 #[.slice (some ⟨W.heap.size, 0, none⟩) 1 1, .slice (some ⟨W.heap.size + 1, 0, none⟩) 1 1] ((W.alloc (.cells #[u1] 32)).alloc (.cells #[u2] 32)) fun e w' => e = .returned (.bool true) ∧ Below W.heap.size W w' := by
  have hba : Below W.heap.size W (W.alloc (.cells #[u1] 32)) := (Below.refl _ _).alloc (Nat.le_refl _) _
  have hbb : Below W.heap.size W ((W.alloc (.cells #[u1] 32)).alloc (.cells #[u2] 32)) := hba.alloc hba.size _
  have hb1 := blk_new W (.cells #[u1] 32)
  have hb2 := blk_new (W.alloc (.cells #[u1] 32)) (.cells #[u2] 32)
  have hk : (W.alloc (.cells #[u1] 32)).heap.size = W.heap.size + 1 := by simp
  rw [hk] at hb2
  refine (sameY [x] _ _ _ (MatO.alone (u := u1) (by rw [Below.heap_alloc _ _ _ (by simp)]; exact hb1) (h1.below hbb)) (MatO.alone (u := u2) hb2 (h2.below hbb)) (by simp) (by intro y hy; simp at hy; subst hy; exact hl)).mono ?_
  rintro e w' ⟨rfl, hb⟩
  exact ⟨rfl, hbb.trans (hb.mono hbb.size)⟩
def JR (B : Nat) (W : World) (p : Pl.PRow) (v1 v2 : Value) : Prop := W.ownsRow B 34 3 p.2 p.1.length (rowC p.1) ∧ ∀ k, p.2.ownBlock = some k → v1.ownBlock ≠ some k ∧ v2.ownBlock ≠ some k
/-- The two lists. -/
structure JI (w W : World) (a b : List Pl.PRow) (v1 v2 : Value) : Prop where
  bel : Below w.heap.size w W
  own1 : W.ownsRow w.heap.size 32 1 v1 a.length (sndC a)
  own2 : W.ownsRow w.heap.size 32 1 v2 b.length (sndC b)
  apart : ∀ k, v1.ownBlock = some k → v2.ownBlock ≠ some k
  rows1 : ∀ p ∈ a, JR w.heap.size W p v1 v2
  rows2 : ∀ p ∈ b, JR w.heap.size W p v1 v2
theorem JI.none (w : World) : JI w w [] [] (.slice none 0 0) (.slice none 0 0) :=
  ⟨Below.refl _ _, World.ownsRow_nil _ _ _ _, World.ownsRow_nil _ _ _ _, fun k hk => (by cases hk), fun p hp => (by cases hp), fun p hp => (by cases hp)⟩
theorem JR.below {B : Nat} {W W' : World} {p : Pl.PRow} {v1 v2 : Value} (h : JR B W p v1 v2) (hb : Below W.heap.size W W') : JR B W' p v1 v2 := ⟨own_below hb h.1, h.2⟩
theorem JI.below {w W W' : World} {a b : List Pl.PRow} {v1 v2 : Value} (h : JI w W a b v1 v2) (hb : Below W.heap.size W W') : JI w W' a b v1 v2 :=
  ⟨h.bel.trans (hb.mono h.bel.size), own_below hb h.own1, own_below hb h.own2, h.apart, fun p hp => (h.rows1 p hp).below hb, fun p hp => (h.rows2 p hp).below hb⟩
theorem JR.left {B : Nat} {W W4 : World} {p : Pl.PRow} {v1 v1' v2 : Value} (h : JR B W p v1 v2) (hg : W.grownBy W4 v1.ownBlock) (ho : v1'.ownBlock = v1.ownBlock ∨ v1'.ownBlock = some W.heap.size) : JR B W4 p v1' v2 := by
  refine ⟨own_at h.1 (fun k hk => hg.block k (h.1.lt k hk).2 (fun e => (h.2 k hk).1 e.symm)), fun k hk => ⟨fun e => ?_, (h.2 k hk).2⟩⟩
  rcases ho with h0 | h0
  · exact (h.2 k hk).1 (h0.symm.trans e)
  · rw [h0] at e; injection e with e; have := (h.1.lt k hk).2; omega
theorem JR.swap {B : Nat} {W : World} {p : Pl.PRow} {v1 v2 : Value} (h : JR B W p v1 v2) : JR B W p v2 v1 := ⟨h.1, fun k hk => (h.2 k hk).symm⟩
theorem JI.swap {w W : World} {a b : List Pl.PRow} {v1 v2 : Value} (h : JI w W a b v1 v2) : JI w W b a v2 v1 :=
  ⟨h.bel, h.own2, h.own1, fun k hk e => h.apart k e hk, fun p hp => (h.rows2 p hp).swap, fun p hp => (h.rows1 p hp).swap⟩
/-- A row more in the first. -/
theorem JI.left {w W W4 : World} {a b : List Pl.PRow} {v1 v1' v2 : Value} {p : Pl.PRow} (h : JI w W a b v1 v2) (hp : JR w.heap.size W p v1 v2) (hown : W4.ownsRow w.heap.size 32 1 v1' (a.length + 1) (sndC a ++ [p.2])) (hg : W.grownBy W4 v1.ownBlock) (ho : v1'.ownBlock = v1.ownBlock ∨ v1'.ownBlock = some W.heap.size) : JI w W4 (a ++ [p]) b v1' v2 := by
  refine ⟨below_grown h.bel hg (fun k hk => (h.own1.lt k hk).1) h.bel.size, by simpa [sndC] using hown, ?_, fun k hk e => ?_, fun q hq => ?_, fun q hq => (h.rows2 q hq).left hg ho⟩
  · exact own_at h.own2 (fun k hk => hg.block k (h.own2.lt k hk).2 (fun e => h.apart k e.symm hk))
  · rcases ho with h0 | h0
    · exact h.apart k (h0.symm.trans hk) e
    · rw [h0] at hk; injection hk with hk; have := (h.own2.lt k e).2; omega
  · rcases List.mem_append.1 hq with hq | hq
    · exact (h.rows1 q hq).left hg ho
    · simp at hq
      subst hq
      exact hp.left hg ho
theorem JI.right {w W W4 : World} {a b : List Pl.PRow} {v1 v2' v2 : Value} {p : Pl.PRow} (h : JI w W a b v1 v2) (hp : JR w.heap.size W p v1 v2) (hown : W4.ownsRow w.heap.size 32 1 v2' (b.length + 1) (sndC b ++ [p.2])) (hg : W.grownBy W4 v2.ownBlock) (ho : v2'.ownBlock = v2.ownBlock ∨ v2'.ownBlock = some W.heap.size) : JI w W4 a (b ++ [p]) v1 v2' :=
  (h.swap.left hp.swap hown hg ho).swap
/-- A row that was made just now lies apart from the lists. -/
theorem JR.new {w W W' : World} {a b : List Pl.PRow} {v1 v2 : Value} (h : JI w W a b v1 v2) {p : Pl.PRow} (hp : W'.ownsRow w.heap.size 34 3 p.2 p.1.length (rowC p.1)) (hk : ∀ k, p.2.ownBlock = some k → W.heap.size ≤ k) : JR w.heap.size W' p v1 v2 :=
  ⟨hp, fun k hk' => ⟨fun e => by have := (h.own1.lt k e).2; have := hk k hk'; omega, fun e => by have := (h.own2.lt k e).2; have := hk k hk'; omega⟩⟩
theorem JI.mato1 {w W : World} {a b : List Pl.PRow} {v1 v2 : Value} (h : JI w W a b v1 v2) : MatO W (a.map (·.1)) v1 := by
  refine MatO.of (mat_own h.own1 (fun q hq => own_rows (f := vC) (fun _ => rfl) (h.rows1 q hq).1 (Nat.le_refl _))) (fun x n c e => ?_)
  obtain ⟨a', c', e', hc⟩ := own_cap h.own1
  rw [e] at e'
  cases e'
  exact hc
theorem JI.mato2 {w W : World} {a b : List Pl.PRow} {v1 v2 : Value} (h : JI w W a b v1 v2) : MatO W (b.map (·.1)) v2 := h.swap.mato1
end Go.Proofs.YtojdpjpldokjmaaGreatDoor
/- The keep Joined: the walk. -/
namespace Go.Proofs.YtojdpjpldokjmaaGreatDoor.Pl
theorem prs_len (rt ru : List (List V)) : (prs rt ru).length = rt.length * ru.length := by
  induction rt with
  | nil => simp [prs]
  | cons r rs ih =>
    unfold prs at ih ⊢
    rw [List.flatMap_cons, List.length_append, ih, List.length_map, List.length_cons, Nat.succ_mul]
    omega
theorem prs_at : ∀ {rt ru : List (List V)} {i k : Nat} {r s : List V}, rt[i]? = some r → ru[k]? = some s → (prs rt ru)[i * ru.length + k]? = some (r ++ s)
  | [], ru, i, k, r, s, h, _ => by simp at h
  | x :: rt, ru, 0, k, r, s, h, h2 => by
    simp at h
    subst h
    unfold prs
    rw [List.flatMap_cons, Nat.zero_mul, Nat.zero_add, List.getElem?_append_left (by rw [List.length_map]; exact (List.getElem?_eq_some_iff.1 h2).1), List.getElem?_map, h2]
    rfl
  | x :: rt, ru, i + 1, k, r, s, h, h2 => by
    have ih := prs_at (rt := rt) (by simpa using h) h2
    unfold prs at ih ⊢
    rw [List.flatMap_cons, List.getElem?_append_right (by rw [List.length_map, Nat.succ_mul]; omega), List.length_map, show (i + 1) * ru.length + k - ru.length = i * ru.length + k by rw [Nat.succ_mul]; omega]
    exact ih
end Go.Proofs.YtojdpjpldokjmaaGreatDoor.Pl
namespace Go.Proofs.YtojdpjpldokjmaaGreatDoor
open Go.RowKit Go.Deep
set_option linter.unusedSimpArgs false
set_option linter.unusedVariables false

theorem execOk_join (HZ : StableM 1048576 0) {D : Pl.DB} {t : List UInt8} {s : Pl.St} (hp : Pl.pParse t = some s) (hk : s.kind = 115) (hd : s.distinct = false) (hl : s.sources.length ≤ 2) (hks : s.keys.length = 0) (hm : ∀ t ∈ D, t.rows.length ≤ 8) : ExecOk D t :=
  ExecOk.of hp ⟨fun e => absurd (hk.symm.trans e) (by decide), fun _ => ⟨1048576, 0, HZ, by omega, fun is rows hj => by
    have h4 := Pl.joinsAll_len hm (by omega) hj
    have h5 : 8 ^ s.sources.length ≤ 8 ^ 2 := Nat.pow_le_pow_right (by omega) hl
    simp at h4
    omega, fun e => (by rw [hd] at e; cases e), by omega⟩⟩
theorem s_pairs (x : List UInt8) : (({ data := #[83, 69, 76, 69, 67, 84, 32, 116, 46, 97, 44, 32, 98, 44, 32, 99, 44, 32, 117, 46, 97, 44, 32, 100, 44, 32] } : ByteArray) ++ { data := x.toArray }) ++ { data := #[32, 70, 82, 79, 77, 32, 116, 32, 74, 79, 73, 78, 32, 117, 32, 79, 78, 32, 84, 82, 85, 69] } = ⟨([83, 69, 76, 69, 67, 84, 32, 116, 46, 97, 44, 32, 98, 44, 32, 99, 44, 32, 117, 46, 97, 44, 32, 100, 44, 32] ++ (x ++ [32, 70, 82, 79, 77, 32, 116, 32, 74, 79, 73, 78, 32, 117, 32, 79, 78, 32, 84, 82, 85, 69])).toArray⟩ := by
  rw [← List.append_assoc]
  exact cat3 [83, 69, 76, 69, 67, 84, 32, 116, 46, 97, 44, 32, 98, 44, 32, 99, 44, 32, 117, 46, 97, 44, 32, 100, 44, 32] x [32, 70, 82, 79, 77, 32, 116, 32, 74, 79, 73, 78, 32, 117, 32, 79, 78, 32, 84, 82, 85, 69]
theorem s_inner (x : List UInt8) : ({ data := #[83, 69, 76, 69, 67, 84, 32, 42, 32, 70, 82, 79, 77, 32, 116, 32, 74, 79, 73, 78, 32, 117, 32, 79, 78, 32] } : ByteArray) ++ { data := x.toArray } = ⟨([83, 69, 76, 69, 67, 84, 32, 42, 32, 70, 82, 79, 77, 32, 116, 32, 74, 79, 73, 78, 32, 117, 32, 79, 78, 32] ++ x).toArray⟩ := cat2 _ x
theorem s_left (x : List UInt8) : ({ data := #[83, 69, 76, 69, 67, 84, 32, 42, 32, 70, 82, 79, 77, 32, 116, 32, 76, 69, 70, 84, 32, 74, 79, 73, 78, 32, 117, 32, 79, 78, 32] } : ByteArray) ++ { data := x.toArray } = ⟨([83, 69, 76, 69, 67, 84, 32, 42, 32, 70, 82, 79, 77, 32, 116, 32, 76, 69, 70, 84, 32, 74, 79, 73, 78, 32, 117, 32, 79, 78, 32] ++ x).toArray⟩ := cat2 _ x
theorem s_where (x : List UInt8) : ({ data := #[83, 69, 76, 69, 67, 84, 32, 42, 32, 70, 82, 79, 77, 32, 116, 32, 74, 79, 73, 78, 32, 117, 32, 79, 78, 32, 84, 82, 85, 69, 32, 87, 72, 69, 82, 69, 32] } : ByteArray) ++ { data := x.toArray } = ⟨([83, 69, 76, 69, 67, 84, 32, 42, 32, 70, 82, 79, 77, 32, 116, 32, 74, 79, 73, 78, 32, 117, 32, 79, 78, 32, 84, 82, 85, 69, 32, 87, 72, 69, 82, 69, 32] ++ x).toArray⟩ := cat2 _ x
theorem jX_len {c : Nat} (hc : c < 8) : (Pl.jX c).length ≤ 40 := by
  match c, hc with
  | 0, _ => decide | 1, _ => decide | 2, _ => decide | 3, _ => decide | 4, _ => decide | 5, _ => decide | 6, _ => decide | 7, _ => decide
set_option maxHeartbeats 8000000 in
set_option maxRecDepth 100000 in
theorem joinedK (L : LexLib) (X : MachLib) (HS : StableM 19 600) (HZ : StableM 1048576 0) (raw : List Int) (cn : Int) (v1 : Value) (w : World) (h1 : IntsAt w raw v1) (hr1 : ∀ x ∈ raw, Pl.in64 x) (hcn : Pl.in64 cn) (hg : Globs w) :
    Calls Tryz.prog 11 #[v1, .int .i64 cn] w fun e w' => e = .returned (.bool true) ∧ Below w.heap.size w w' := by
  have HSt := hide HS
  have HZt := hide HZ
  have HLex := hide L
  have HMach := hide X
  have HB := hide (baseM L X raw v1 w h1 hr1 hg)
  have HPk := hide (fun W => pickM cn 8 W hcn (by omega) (by omega))
  have HT := hide (Pl.base_t raw)
  have HU := hide (Pl.base_u raw)
  obtain ⟨hl8, hl7, hl1⟩ := Pl.base_len raw
  have HD : Hid (Pl.baseDb raw = Pl.bTab (Pl.baseRows raw).1 (Pl.baseRows raw).2) := rfl
  generalize Pl.baseDb raw = D at *
  generalize (Pl.baseRows raw).1 = rt at *
  generalize (Pl.baseRows raw).2 = ru at *
  have HM8 : Hid (∀ t ∈ Pl.bTab rt ru, t.rows.length ≤ 8) := fun t ht => by
    simp [Pl.bTab] at ht
    rcases ht with rfl | rfl
    · exact hl8
    · exact Nat.le_succ_of_le hl7
  obtain ⟨a1, c1, rfl, _⟩ := h1
  clear hg hr1 HS HZ L X hcn
  go_enter Tryz.func11, Tryz.ntmps11
  go_wp2_with fail
  refine (unhide HB).mono ?_
  rintro e w1 ⟨rfl, hb1, M1, lay1, hl1', hM1⟩
  rw [HD.out] at hl1'
  have HL1 := hide hl1'
  have HN : Hid (∀ W M', Stp w1 M1 W M' → Below w.heap.size w W) := fun W M' h => stp_own hb1 hM1 h hb1.size
  generalize hbb : w.heap.size = bb at *
  have HBB := hide hbb
  clear hbb hl1' hM1 hb1 HB HD
  have hk8 : Pl.pickK cn 8 < 8 := Nat.mod_lt _ (by omega)
  go_upto_region 4 with fail
  go_cut [6] (fun s6 wx => s6 = .string ⟨(Pl.jX (Pl.pickK cn 8)).toArray⟩ ∧ Hid (Below w1.heap.size w1 wx))
  case first =>
    go_wp2_with fail
    refine ((unhide HPk) _).mono ?_
    rintro e w2 ⟨rfl, rfl⟩
    generalize Pl.pickK cn 8 = c at *
    have HBa : Hid (∀ o, Below w1.heap.size w1 (w1.alloc o)) := fun o => (Below.refl _ _).alloc (Nat.le_refl _) _
    obtain rfl | rfl | rfl | rfl | rfl | rfl | rfl | rfl : c = 0 ∨ c = 1 ∨ c = 2 ∨ c = 3 ∨ c = 4 ∨ c = 5 ∨ c = 6 ∨ c = 7 := by omega
    all_goals
      go_wp2_with fail
      go_meet
      exact ⟨rfl, HBa.out _⟩
  case rest =>
    obtain ⟨rfl, HB2⟩ := hcut
    generalize Pl.pickK cn 8 = c at *
    have HL2 := hide (HL1.out.below HB2.out)
    have HS2 : Hid (Stp w1 M1 wc M1) := Stp.below _ HB2.out
    have hxl := jX_len hk8
    have HPp : Hid (ExecOk (Pl.bTab rt ru) (Pl.jPairs c)) := execOk_join HZt.out (Pl.p_pairs hk8) rfl rfl (Nat.le_refl _) rfl HM8.out
    have HPi : Hid (ExecOk (Pl.bTab rt ru) (Pl.jInner c)) := execOk_join HZt.out (Pl.p_inner hk8) rfl rfl (Nat.le_refl _) rfl HM8.out
    have HPl : Hid (ExecOk (Pl.bTab rt ru) (Pl.jLeft c)) := execOk_join HZt.out (Pl.p_left hk8) rfl rfl (Nat.le_refl _) rfl HM8.out
    have HPw : Hid (ExecOk (Pl.bTab rt ru) (Pl.jWhere c)) := execOk_join HZt.out (Pl.p_where hk8) rfl rfl (Nat.le_refl _) rfl HM8.out
    have HPu : Hid (ExecOk (Pl.bTab rt ru) Pl.uAll) := execOk_join HZt.out Pl.p_uAll rfl rfl (by decide) rfl HM8.out
    have HEp := hide (Pl.e_pairs HT.out HU.out hk8)
    have HEi := hide (Pl.e_inner HT.out HU.out hk8)
    have HEl := hide (Pl.e_left HT.out HU.out hk8)
    have HEw := hide (Pl.e_where HT.out HU.out hk8 (Pl.j_okT hk8))
    unfold Pl.jPairs at HPp HEp
    unfold Pl.jInner at HPi HEi
    unfold Pl.jLeft at HPl HEl
    unfold Pl.jWhere at HPw HEw
    generalize Pl.jX c = x at *
    clear HB2 HL1 HPk
    have HC := hide (rowsY HLex.out HMach.out HL2.out (by decide) (ok_sel HSt.out (by omega) (by omega) Pl.k_all) (Pl.all_exec (ru := ru) HT.out) rfl)
    go_wp2_with fail
    refine (unhide HC).mono ?_
    rintro e w3 ⟨v3, M3, lay3, rfl, hs3, hl3, hg3⟩
    obtain ⟨a3, c3, rfl⟩ := hg3.slice
    have HS3 := hide (HS2.out.trans hs3)
    have HL3 := hide hl3
    have HG3 := hide hg3
    clear hs3 hl3 hg3 HC HS2 HL2
    have HC := hide (rowsY HLex.out HMach.out HL3.out (by decide) HPu.out (Pl.e_uAll HU.out) rfl)
    go_wp2_with fail
    refine (unhide HC).mono ?_
    rintro e w4 ⟨v4, M4, lay4, rfl, hs4, hl4, hg4⟩
    obtain ⟨a4, c4, rfl⟩ := hg4.slice
    have HS4 := hide (HS3.out.trans hs4)
    have HL4 := hide hl4
    have HG4 := hide hg4
    replace HG3 := hide (HG3.out.step hs4)
    clear hs4 hl4 hg4 HC HS3 HL3
    have HC := hide (rowsY HLex.out HMach.out HL4.out (by simp; omega) HPp.out HEp.out rfl)
    rw [← s_pairs] at HC
    go_wp2_with fail
    refine (unhide HC).mono ?_
    rintro e w5 ⟨v5, M5, lay5, rfl, hs5, hl5, hg5⟩
    obtain ⟨a5, c5, rfl⟩ := hg5.slice
    have hNl : ((Pl.prs rt ru).map (fun r => r ++ [Pl.evJ c r])).length = rt.length * ru.length := by rw [List.length_map, Pl.prs_len]
    rw [hNl] at hg5 ⊢
    have hNb : rt.length * ru.length ≤ 8 * 7 := Nat.mul_le_mul hl8 hl7
    have hNi : (rt.length : Int) * (ru.length : Int) = ((rt.length * ru.length : Nat) : Int) := by simp
    have HNe : Hid (∀ i k, i < rt.length → k < ru.length → i * ru.length + k < rt.length * ru.length) := fun i k hi hk => by
      have : (i + 1) * ru.length ≤ rt.length * ru.length := Nat.mul_le_mul_right _ hi
      rw [Nat.succ_mul] at this
      omega
    generalize rt.length * ru.length = N at *
    clear hNl
    have HS5 := hide (HS4.out.trans hs5)
    have HL5 := hide hl5
    have HG5 := hide hg5
    replace HG3 := hide (HG3.out.step hs5)
    replace HG4 := hide (HG4.out.step hs5)
    clear hs5 hl5 hg5 HC HS4 HL4 HPp HEp
    have HC := hide (rowsY HLex.out HMach.out HL5.out (by simp; omega) HPi.out HEi.out rfl)
    rw [← s_inner] at HC
    go_wp2_with fail
    refine (unhide HC).mono ?_
    rintro e w6 ⟨v6, M6, lay6, rfl, hs6, hl6, hg6⟩
    obtain ⟨a6, c6, rfl⟩ := hg6.slice
    generalize (List.flatMap (Pl.jOf c ru) rt).length = n6 at hg6 ⊢
    have HS6 := hide (HS5.out.trans hs6)
    have HL6 := hide hl6
    have HG6 := hide hg6
    replace HG3 := hide (HG3.out.step hs6)
    replace HG4 := hide (HG4.out.step hs6)
    replace HG5 := hide (HG5.out.step hs6)
    clear hs6 hl6 hg6 HC HS5 HL5 HPi HEi
    have HC := hide (rowsY HLex.out HMach.out HL6.out (by simp; omega) HPl.out HEl.out rfl)
    rw [← s_left] at HC
    go_wp2_with fail
    refine (unhide HC).mono ?_
    rintro e w7 ⟨v7, M7, lay7, rfl, hs7, hl7x, hg7⟩
    obtain ⟨a7, c7, rfl⟩ := hg7.slice
    generalize (List.flatMap (Pl.jOuter c ru) rt).length = n7 at hg7 ⊢
    have HS7 := hide (HS6.out.trans hs7)
    have HL7 := hide hl7x
    have HG7 := hide hg7
    replace HG3 := hide (HG3.out.step hs7)
    replace HG4 := hide (HG4.out.step hs7)
    replace HG5 := hide (HG5.out.step hs7)
    replace HG6 := hide (HG6.out.step hs7)
    clear hs7 hl7x hg7 HC HS6 HL6 HPl HEl
    have HC := hide (rowsY HLex.out HMach.out HL7.out (by simp; omega) HPw.out HEw.out rfl)
    rw [← s_where] at HC
    go_wp2_with fail
    refine (unhide HC).mono ?_
    rintro e w8 ⟨v8, M8, lay8, rfl, hs8, hl8x, hg8⟩
    obtain ⟨a8, c8, rfl⟩ := hg8.slice
    generalize (List.flatMap (Pl.jOf c ru) rt).length = n8 at hg8 ⊢
    have HBw := hide (HN.out _ _ (HS7.out.trans hs8))
    have HM3 := hide (HG3.out.step hs8).matc
    have HM4 := hide (HG4.out.step hs8).matc
    have HM5 := hide (HG5.out.step hs8).matc
    have HM6 := hide (HG6.out.step hs8).mato
    have HM7 := hide (HG7.out.step hs8).mato
    have HM8' := hide hg8.mato
    clear hs8 hl8x hg8 HC HS7 HL7 HG3 HG4 HG5 HG6 HG7 HPw HEw HPu HLex HMach HSt HZt HN HM8
    have hz0 : ((rt.length : Int) == 0) = false := by simp; rintro rfl; simp at hl1
    obtain ⟨i0, hi, hi0, hi1, hi2⟩ := info_parts Tryz.infoVal
    obtain ⟨j0, hj, hj0, hj1, hj2⟩ := info_parts Tryz.infoRow
    have HInf := hide (And.intro hi (And.intro hi0 (And.intro hi1 hi2)))
    have HInr := hide (And.intro hj (And.intro hj0 (And.intro hj1 hj2)))
    clear hi hi0 hi1 hi2 hj hj0 hj1 hj2
    go_wp2_with fail
    go_loopw [19, 20, 21] (fun s19 s20 s21 wr => ∃ (i : Nat) (a b : List Pl.PRow), i ≤ rt.length ∧ s21 = .int .i64 (i : Nat) ∧ a.length ≤ 8 * i ∧ b.length ≤ 8 * i ∧ Hid (JI w8 wr a b s19 s20 ∧ a.map (·.1) = (rt.take i).flatMap (Pl.jOf c ru) ∧ b.map (·.1) = (rt.take i).flatMap (Pl.jOuter c ru))) (fun _ _ a _ => rt.length - (intOf a).toNat)
    case atStart => exact ⟨0, [], [], Nat.zero_le _, rfl, Nat.zero_le _, Nat.zero_le _, JI.none _, rfl, rfl⟩
    case round =>
      obtain ⟨i, a, b, hi, rfl, hal, hbl, HI⟩ := hrel
      obtain ⟨v1a, v1n, v1c, rfl⟩ := own_slice HI.out.1.own1
      obtain ⟨v2a, v2n, v2c, rfl⟩ := own_slice HI.out.1.own2
      by_cases hlt : i < rt.length
      · have HRi : Hid (rt[i]? = some rt[i]) := List.getElem?_eq_getElem hlt
        have HTr := hide (HT.out _ (List.getElem_mem hlt))
        generalize rt[i] = r at *
        obtain ⟨q, hq, HQ⟩ : ∃ q : Nat, (i : Int) * (ru.length : Int) = (q : Nat) ∧ Hid (q = i * ru.length) := ⟨i * ru.length, by simp, rfl⟩
        have hqb : q ≤ 64 := by
          have h1 := HQ.out
          have : i * ru.length ≤ 8 * 7 := Nat.mul_le_mul (by omega) hl7
          omega
        go_wp2_with fail
        go_loopw [19, 20, 22, 23] (fun s19 s20 s22 s23 wr2 => ∃ (k : Nat) (a2 b2 : List Pl.PRow) (sm : Bool), k ≤ ru.length ∧ s23 = .int .i64 (k : Nat) ∧ s22 = .bool sm ∧ a2.length ≤ 8 * i + k ∧ b2.length ≤ 8 * i + k ∧ Hid (JI w8 wr2 a2 b2 s19 s20 ∧ a2.map (·.1) = (rt.take i).flatMap (Pl.jOf c ru) ++ Pl.jOf c (ru.take k) r ∧ b2.map (·.1) = (rt.take i).flatMap (Pl.jOuter c ru) ++ Pl.jOf c (ru.take k) r ∧ sm = !(Pl.jOf c (ru.take k) r).isEmpty)) (fun _ _ _ a _ => ru.length - (intOf a).toNat)
        case atStart => exact ⟨0, a, b, false, Nat.zero_le _, rfl, rfl, by omega, by omega, HI.out.1, by rw [HI.out.2.1]; simp [Pl.jOf], by rw [HI.out.2.2]; simp [Pl.jOf], by simp [Pl.jOf]⟩
        case round =>
          obtain ⟨k, a2, b2, sm, hk, rfl, rfl, hal2, hbl2, HJ⟩ := hrel
          obtain ⟨x1a, x1n, x1c, rfl⟩ := own_slice HJ.out.1.own1
          obtain ⟨x2a, x2n, x2c, rfl⟩ := own_slice HJ.out.1.own2
          have hbJ := HJ.out.1.bel
          have hzJ := hbJ.size
          clear HI hal hbl
          by_cases hlt2 : k < ru.length
          · have HUk : Hid (ru[k]? = some ru[k]) := List.getElem?_eq_getElem hlt2
            have HUr := hide (HU.out _ (List.getElem_mem hlt2))
            generalize ru[k] = s at *
            obtain ⟨j, hjk, HJk⟩ : ∃ j : Nat, (q : Int) + (k : Int) = (j : Nat) ∧ Hid (j = i * ru.length + k) := ⟨q + k, by simp, by unfold Hid; rw [HQ.out]⟩
            have hjN : j < N := by rw [HJk.out]; exact HNe.out i k hlt hlt2
            have hjNi : ((j : Nat) : Int) < ((N : Nat) : Int) := by omega
            have HP5 : Hid (((Pl.prs rt ru).map (fun r => r ++ [Pl.evJ c r]))[j]? = some ((r ++ s) ++ [Pl.evJ c (r ++ s)])) := by
              unfold Hid
              rw [List.getElem?_map, HJk.out, Pl.prs_at HRi.out HUk.out]
              rfl
            obtain ⟨g3, ua3, uc3, rfl, z3, d3, _, r3⟩ := HM3.out.get hbJ HRi.out
            obtain ⟨g4, ua4, uc4, rfl, z4, d4, _, r4⟩ := HM4.out.get hbJ HUk.out
            obtain ⟨g5, ua5, uc5, rfl, z5, d5, c5', r5⟩ := HM5.out.get hbJ HP5.out
            have hr3 : r.length = 3 := by obtain ⟨_, _, _, e, _⟩ := HTr.out; rw [e]; rfl
            have hs2 : s.length = 2 := by obtain ⟨_, _, e, _⟩ := HUr.out; rw [e]; rfl
            have HX3 := hide (Pl.j_three hk8 (Pl.pair_j HTr.out HUr.out))
            obtain ⟨h3, e3, e3', y3, n3⟩ := r3.cells (by rintro rfl; simp at hr3)
            obtain ⟨h4, e4, e4', y4, n4⟩ := r4.cells (by rintro rfl; simp at hs2)
            have h6 : ((r ++ s) ++ [Pl.evJ c (r ++ s)]).length = 6 := by simp [hr3, hs2]
            obtain ⟨h5, e5, e5', y5, q50, q51, _⟩ := r5.val (i := 5) (by omega)
            rw [h6] at e5' d5 c5' r5
            rw [hr3] at e3' d3
            rw [hs2] at e4' d4
            cases e3'
            cases e4'
            cases e5'
            have hg5 : ((r ++ s) ++ [Pl.evJ c (r ++ s)]).getD 5 Pl.nul = Pl.evJ c (r ++ s) := by
              rw [List.getD_eq_getElem?_getD, List.getElem?_append_right (by simp [hr3, hs2])]
              simp [hr3, hs2]
            rw [hg5] at q50 q51
            simp at q50 q51
            have HN3 := hide n3
            have HN4 := hide n4
            have HR5 := hide r5.front
            have HOr := hide (one_vals r)
            have HOs := hide (one_vals s)
            have HLr : Hid ((rowC r).length = 3 * 3) := by unfold Hid; rw [rowC_len, hr3]
            have HLs : Hid ((rowC s).length = 2 * 3) := by unfold Hid; rw [rowC_len, hs2]
            have Hr3 := hide hr3
            have Hs2 := hide hs2
            clear n3 n4 r3 r4 r5 hg5 h6 hr3 hs2 hbJ
            go_wp2_with (at_builtin; refine wpList_append_own_at _ rfl (.tmp 137) (.tmp 141) 32 rfl w8.heap.size 34 i0 _ 3 32 Tryz.underlying32 HInf.out.1 HInf.out.2.1 HInf.out.2.2.1 HInf.out.2.2.2 rfl (by decide) _ _ _ rfl (World.ownsRow_nil _ _ _ _) ⟨h3, 0, none⟩ 3 uc3 (rowC r) rfl ?c0 ?c1 ?c2 ?c3 ?c4 ?c5 ?_)
            case c0 => exact HLr.out
            case c1 => exact fun j u hj => by have := HN3.out j u hj; rwa [addr_add] at this
            case c2 => exact HOr.out
            case c3 => unfold maxLen; omega
            intro v9 w9 hown9 hg9 hnil9 ho9
            have hb9 : Below wr.heap.size wr w9 := below_grown (Below.refl _ _) hg9 (fun k hk => by cases hk) (Nat.le_refl _)
            have HK9 : Hid (∀ k, v9.ownBlock = some k → wr.heap.size ≤ k) := fun k hk => by
              rcases ho9 with h0 | h0
              · rw [h0] at hk; cases hk
              · rw [h0] at hk; injection hk with hk; omega
            obtain ⟨v9a, v9n, v9c, rfl⟩ := own_slice hown9
            have q50 := (hb9.cell (p := ⟨h5, 15, none⟩) y5).trans q50
            have q51 := (hb9.cell (p := ⟨h5, 16, none⟩) y5).trans q51
            have d4 := (hb9.cell (p := ⟨g4, k, none⟩) z4).trans d4
            have HN4b : Hid (∀ j u, (rowC s)[j]? = some u → w9.cell? ((⟨h4, 0, none⟩ : Addr).add j) = some u) := fun j u hj => by
              have := HN4.out j u hj
              rw [addr_add] at this ⊢
              exact (hb9.cell (p := ⟨h4, j, none⟩) y4).trans this
            have HB9 := hide hb9
            have hz9 := hb9.size
            clear hg9 hnil9 ho9 hb9
            have hl9 : v9n = 3 := by
              obtain ⟨_, _, e, _⟩ := own_cap hown9
              injection e
            subst hl9
            go_wp2_with (at_builtin; refine wpList_append_own_at _ rfl (.tmp 143) (.tmp 147) 32 rfl w8.heap.size 34 i0 _ 3 32 Tryz.underlying32 HInf.out.1 HInf.out.2.1 HInf.out.2.2.1 HInf.out.2.2.2 rfl (by decide) _ _ _ rfl hown9 ⟨h4, 0, none⟩ 2 uc4 (rowC s) rfl ?f0 ?f1 ?f2 ?f3 ?f4 ?f5 ?_)
            case f0 => exact HLs.out
            case f1 => exact fun j u hj => by have := HN4b.out j u hj; first | exact this | rwa [addr_add] at this
            case f2 => exact HOs.out
            case f3 => unfold maxLen; omega
            case f4 => omega
            case f5 => first | omega | (simp; omega) | simp
            intro v10 w10 hown10 hg10 hnil10 ho10
            have hb10 : Below wr.heap.size wr w10 := below_grown HB9.out hg10 HK9.out hz9
            have HK10 : Hid (∀ k, v10.ownBlock = some k → wr.heap.size ≤ k) := fun k hk => by
              rcases ho10 with h0 | h0
              · exact HK9.out k (h0.symm.trans hk)
              · rw [h0] at hk; injection hk with hk; omega
            obtain ⟨v10a, v10n, v10c, rfl⟩ := own_slice hown10
            have HO10 : Hid (w10.ownsRow w8.heap.size 34 3 (.slice v10a v10n v10c) (r ++ s).length (rowC (r ++ s))) := by
              unfold Hid
              rw [rowC_app, List.length_append, Hr3.out, Hs2.out]
              simpa using hown10
            have hl10 : v10n = 5 := by
              obtain ⟨_, _, e, _⟩ := own_cap hown10
              injection e
            subst hl10
            have q50 := (hb10.cell (p := ⟨h5, 15, none⟩) y5).trans ‹wr.cell? ⟨h5, 15, none⟩ = _›
            have q51 := (hb10.cell (p := ⟨h5, 16, none⟩) y5).trans ‹wr.cell? ⟨h5, 16, none⟩ = _›
            have HJ10 := hide (HJ.out.1.below hb10)
            have hz10 := hb10.size
            have HP10 : Hid (JR w8.heap.size w10 (r ++ s, .slice v10a 5 v10c) (.slice x1a x1n x1c) (.slice x2a x2n x2c)) := JR.new (p := (r ++ s, .slice v10a 5 v10c)) HJ.out.1 HO10.out HK10.out
            have hr5 := HR5.out.below hb10
            rw [List.length_append, Hr3.out, Hs2.out] at hr5
            have HSa := hide (same_pair (own_rows (f := vC) (fun _ => rfl) HO10.out (Nat.le_refl _)) hr5 (by rw [List.length_append, Hr3.out, Hs2.out]; omega))
            clear hg10 hnil10 ho10 HK9 HK10 HB9 HN4b d4 hown9 hown10 HO10 hb10 hr5
            go_wp2_with fail
            refine (unhide HSa).mono ?_
            rintro e w11 ⟨rfl, hb11⟩
            have hbS := hb11
            have hh5 : h5 < w10.heap.size := by omega
            have q50 := (hbS.cell (p := ⟨h5, 15, none⟩) hh5).trans q50
            have q51 := (hbS.cell (p := ⟨h5, 16, none⟩) hh5).trans q51
            have HJ11 := hide (HJ10.out.below hbS)
            have HP11 := hide (HP10.out.below hbS)
            have hz11 := hbS.size
            clear hb11 hbS HSa HJ10 HP10 HR5 HN3 HN4 HOr HOs HLr HLs d3 d4 d5
            have HTk := hide (Pl.jOf_take (c := c) (r := r) HUk.out)
            rcases HX3.out with ⟨ev, hy⟩ | ⟨ev, hy⟩ | ⟨ev, hy⟩
            · rw [ev] at q50 q51
              simp [Pl.nul] at q50 q51
              have HF : Hid (JI w8 w11 a2 b2 (.slice x1a x1n x1c) (.slice x2a x2n x2c) ∧ a2.map (·.1) = (rt.take i).flatMap (Pl.jOf c ru) ++ Pl.jOf c (ru.take (k + 1)) r ∧ b2.map (·.1) = (rt.take i).flatMap (Pl.jOuter c ru) ++ Pl.jOf c (ru.take (k + 1)) r ∧ sm = !(Pl.jOf c (ru.take (k + 1)) r).isEmpty) := by
                unfold Hid
                rw [HTk.out, hy, if_neg (by decide), List.append_nil]
                exact ⟨HJ11.out, HJ.out.2⟩
              clear ev hy HJ HJ11 HP11 HTk HX3
              go_wp2_with fail
              go_roundw
              case rel => exact ⟨k + 1, a2, b2, sm, by omega, by go_num, rfl, by omega, by omega, HF.out⟩
              case measure => simp [intOf]; omega
            · rw [ev] at q50 q51
              simp [Pl.tru] at q50 q51
              have HF : Hid (JI w8 w11 a2 b2 (.slice x1a x1n x1c) (.slice x2a x2n x2c) ∧ a2.map (·.1) = (rt.take i).flatMap (Pl.jOf c ru) ++ Pl.jOf c (ru.take (k + 1)) r ∧ b2.map (·.1) = (rt.take i).flatMap (Pl.jOuter c ru) ++ Pl.jOf c (ru.take (k + 1)) r ∧ sm = !(Pl.jOf c (ru.take (k + 1)) r).isEmpty) := by
                unfold Hid
                rw [HTk.out, hy, if_neg (by decide), List.append_nil]
                exact ⟨HJ11.out, HJ.out.2⟩
              clear ev hy HJ HJ11 HP11 HTk HX3
              go_wp2_with fail
              go_roundw
              case rel => exact ⟨k + 1, a2, b2, sm, by omega, by go_num, rfl, by omega, by omega, HF.out⟩
              case measure => simp [intOf]; omega
            · rw [ev] at q50 q51
              simp [Pl.tru] at q50 q51
              have HK : Hid (Pl.jOf c (ru.take (k + 1)) r = Pl.jOf c (ru.take k) r ++ [r ++ s]) := by
                unfold Hid
                rw [HTk.out, hy, if_pos rfl]
              have HQ2 := hide HJ.out.2
              have how1 := HJ11.out.own1
              clear ev hy HJ HTk HX3
              go_wp2_with (at_builtin; refine wpList_append_own_at _ rfl (.tmp 172) (.tmp 174) 29 rfl w8.heap.size 32 j0 _ 1 24 Tryz.underlying29 HInr.out.1 HInr.out.2.1 HInr.out.2.2.1 HInr.out.2.2.2 rfl (by decide) _ _ _ rfl (how1.alloc _) ⟨w11.heap.size, 0, none⟩ 1 1 [.slice v10a 5 v10c] rfl rfl ?m1 ?m2 ?m3 ?m4 ?m5 ?_)
              case m1 => exact news_at w11 [.slice v10a 5 v10c] 32
              case m2 => intro x hx; simp at hx; subst hx; rfl
              case m3 => unfold maxLen; omega
              case m4 => omega
              case m5 => simp; omega
              intro v12 w12 hown12 hg12 hnil12 ho12
              have hba : Below w11.heap.size w11 (w11.alloc (.cells #[.slice v10a 5 v10c] 32)) := (Below.refl _ _).alloc (Nat.le_refl _) _
              have hj12 := (HJ11.out.below hba).left (p := (r ++ s, .slice v10a 5 v10c)) (HP11.out.below hba) hown12 hg12 (by simpa using ho12)
              have HP12 := hide (hj12.rows1 (r ++ s, .slice v10a 5 v10c) (by simp))
              have HJ12 := hide hj12
              obtain ⟨y1a, y1n, y1c, rfl⟩ := own_slice hown12
              have how2 := hj12.own2
              have hz12 := hj12.bel.size
              clear hown12 hg12 hnil12 ho12 hba hj12 how1 q50 q51 HJ11 HP11
              go_wp2_with (at_builtin; refine wpList_append_own_at _ rfl (.tmp 176) (.tmp 178) 29 rfl w8.heap.size 32 j0 _ 1 24 Tryz.underlying29 HInr.out.1 HInr.out.2.1 HInr.out.2.2.1 HInr.out.2.2.2 rfl (by decide) _ _ _ rfl (how2.alloc _) ⟨w12.heap.size, 0, none⟩ 1 1 [.slice v10a 5 v10c] rfl rfl ?p1 ?p2 ?p3 ?p4 ?p5 ?_)
              case p1 => exact news_at w12 [.slice v10a 5 v10c] 32
              case p2 => intro x hx; simp at hx; subst hx; rfl
              case p3 => unfold maxLen; omega
              case p4 => omega
              case p5 => simp; omega
              intro v13 w13 hown13 hg13 hnil13 ho13
              have hba : Below w12.heap.size w12 (w12.alloc (.cells #[.slice v10a 5 v10c] 32)) := (Below.refl _ _).alloc (Nat.le_refl _) _
              have hj13 := (HJ12.out.below hba).right (p := (r ++ s, .slice v10a 5 v10c)) (HP12.out.below hba) hown13 hg13 (by simpa using ho13)
              have HF : Hid (JI w8 w13 (a2 ++ [(r ++ s, .slice v10a 5 v10c)]) (b2 ++ [(r ++ s, .slice v10a 5 v10c)]) (.slice y1a y1n y1c) v13 ∧ (a2 ++ [(r ++ s, Value.slice v10a 5 v10c)]).map (·.1) = (rt.take i).flatMap (Pl.jOf c ru) ++ Pl.jOf c (ru.take (k + 1)) r ∧ (b2 ++ [(r ++ s, Value.slice v10a 5 v10c)]).map (·.1) = (rt.take i).flatMap (Pl.jOuter c ru) ++ Pl.jOf c (ru.take (k + 1)) r ∧ true = !(Pl.jOf c (ru.take (k + 1)) r).isEmpty) := by
                refine ⟨hj13, ?_, ?_, ?_⟩
                · rw [HK.out, List.map_append, HQ2.out.1, List.append_assoc]; rfl
                · rw [HK.out, List.map_append, HQ2.out.2.1, List.append_assoc]; rfl
                · rw [HK.out]; simp
              have hla : (a2 ++ [(r ++ s, Value.slice v10a 5 v10c)]).length ≤ 8 * i + (k + 1) := by simp; omega
              have hlb : (b2 ++ [(r ++ s, Value.slice v10a 5 v10c)]).length ≤ 8 * i + (k + 1) := by simp; omega
              obtain ⟨y2a, y2n, y2c, rfl⟩ := own_slice hown13
              generalize a2 ++ [(r ++ s, Value.slice v10a 5 v10c)] = a3' at *
              generalize b2 ++ [(r ++ s, Value.slice v10a 5 v10c)] = b3' at *
              clear hown13 hg13 hnil13 ho13 hba hj13 how2 HJ12 HP12 HQ2 HK
              go_wp2_with fail
              go_roundw
              case rel => exact ⟨k + 1, a3', b3', true, by omega, by go_num, rfl, hla, hlb, HF.out⟩
              case measure => simp [intOf]; omega
          · obtain rfl : k = ru.length := by omega
            rw [List.take_length] at HJ
            have HFt := hide (Pl.flat_take (f := Pl.jOf c ru) HRi.out)
            have HFo := hide (Pl.flat_take (f := Pl.jOuter c ru) HRi.out)
            cases sm with
            | true =>
              have HF : Hid (JI w8 wr a2 b2 (.slice x1a x1n x1c) (.slice x2a x2n x2c) ∧ a2.map (·.1) = (rt.take (i + 1)).flatMap (Pl.jOf c ru) ∧ b2.map (·.1) = (rt.take (i + 1)).flatMap (Pl.jOuter c ru)) := by
                unfold Hid
                have hne : (Pl.jOf c ru r).isEmpty = false := by have := HJ.out.2.2.2; simpa using this.symm
                have ho : Pl.jOuter c ru r = Pl.jOf c ru r := by unfold Pl.jOuter; rw [hne, if_neg (by decide)]
                rw [HFt.out, HFo.out, ho]
                exact ⟨HJ.out.1, HJ.out.2.1, HJ.out.2.2.1⟩
              clear HJ HFt HFo hbJ
              go_wp2_with fail
              go_roundw
              case rel => exact ⟨i + 1, a2, b2, by omega, by go_num, by omega, by omega, HF.out⟩
              case measure => simp [intOf]; omega
            | false =>
              have HOe : Hid (Pl.jOuter c ru r = [r ++ [Pl.nul, Pl.nul]]) := by
                have hne : (Pl.jOf c ru r).isEmpty = true := by have := HJ.out.2.2.2; simpa using this.symm
                unfold Hid Pl.jOuter
                rw [hne, if_pos rfl]
              have HJe : Hid (Pl.jOf c ru r = []) := by
                have hne : (Pl.jOf c ru r).isEmpty = true := by have := HJ.out.2.2.2; simpa using this.symm
                exact List.isEmpty_iff.1 hne
              obtain ⟨g3, ua3, uc3, rfl, z3, d3, _, r3⟩ := HM3.out.get hbJ HRi.out
              have hr3 : r.length = 3 := by obtain ⟨_, _, _, e, _⟩ := HTr.out; rw [e]; rfl
              obtain ⟨h3, e3, e3', y3, n3⟩ := r3.cells (by rintro rfl; simp at hr3)
              rw [hr3] at e3' d3
              cases e3'
              have HN3 := hide n3
              have HOr := hide (one_vals r)
              have HOs := hide (one_vals [Pl.nul, Pl.nul])
              have HLr : Hid ((rowC r).length = 3 * 3) := by unfold Hid; rw [rowC_len, hr3]
              have Hr3 := hide hr3
              clear n3 r3 hr3 hbJ
              go_wp2_with (at_builtin; refine wpList_append_own_at _ rfl (.tmp 182) (.tmp 186) 32 rfl w8.heap.size 34 i0 _ 3 32 Tryz.underlying32 HInf.out.1 HInf.out.2.1 HInf.out.2.2.1 HInf.out.2.2.2 rfl (by decide) _ _ _ rfl (World.ownsRow_nil _ _ _ _) ⟨h3, 0, none⟩ 3 uc3 (rowC r) rfl ?c0 ?c1 ?c2 ?c3 ?c4 ?c5 ?_)
              case c0 => exact HLr.out
              case c1 => exact fun j u hj => by have := HN3.out j u hj; first | exact this | rwa [addr_add] at this
              case c2 => exact HOr.out
              case c3 => unfold maxLen; omega
              intro v9 w9 hown9 hg9 hnil9 ho9
              have hb9 : Below wr.heap.size wr w9 := below_grown (Below.refl _ _) hg9 (fun k hk => by cases hk) (Nat.le_refl _)
              have HK9 : Hid (∀ k, v9.ownBlock = some k → wr.heap.size ≤ k) := fun k hk => by
                rcases ho9 with h0 | h0
                · rw [h0] at hk; cases hk
                · rw [h0] at hk; injection hk with hk; omega
              obtain ⟨v9a, v9n, v9c, rfl⟩ := own_slice hown9
              have HB9 := hide hb9
              have hz9 := hb9.size
              have hl9 : v9n = 3 := by
                obtain ⟨_, _, e, _⟩ := own_cap hown9
                injection e
              subst hl9
              clear hg9 hnil9 ho9 hb9 d3 HN3
              go_wp2_with (at_builtin; refine wpList_append_own_at _ rfl (.tmp 188) (.tmp 191) 32 rfl w8.heap.size 34 i0 _ 3 32 Tryz.underlying32 HInf.out.1 HInf.out.2.1 HInf.out.2.2.1 HInf.out.2.2.2 rfl (by decide) _ _ _ rfl (hown9.alloc _) ⟨w9.heap.size, 0, none⟩ 2 2 (rowC [Pl.nul, Pl.nul]) rfl ?f0 ?f1 ?f2 ?f3 ?f4 ?f5 ?_)
              case f0 => rfl
              case f1 => exact news_at w9 (rowC [Pl.nul, Pl.nul]) 34
              case f2 => exact HOs.out
              case f3 => unfold maxLen; omega
              case f4 => omega
              case f5 => first | omega | (simp; omega) | simp
              intro v10 w10 hown10 hg10 hnil10 ho10
              have hb10 : Below wr.heap.size wr w10 := below_grown (HB9.out.alloc hz9 _) hg10 HK9.out (by simp; omega)
              have HK10 : Hid (∀ k, v10.ownBlock = some k → wr.heap.size ≤ k) := fun k hk => by
                rcases ho10 with h0 | h0
                · exact HK9.out k (h0.symm.trans hk)
                · rw [h0] at hk; simp at hk; omega
              obtain ⟨v10a, v10n, v10c, rfl⟩ := own_slice hown10
              have HO10 : Hid (w10.ownsRow w8.heap.size 34 3 (.slice v10a v10n v10c) (r ++ [Pl.nul, Pl.nul]).length (rowC (r ++ [Pl.nul, Pl.nul]))) := by
                unfold Hid
                rw [rowC_app, List.length_append, Hr3.out]
                simpa using hown10
              have hl10 : v10n = 5 := by
                obtain ⟨_, _, e, _⟩ := own_cap hown10
                injection e
              subst hl10
              have HJ10 := hide (HJ.out.1.below hb10)
              have HQ2 := hide HJ.out.2
              have HP10 : Hid (JR w8.heap.size w10 (r ++ [Pl.nul, Pl.nul], .slice v10a 5 v10c) (.slice x1a x1n x1c) (.slice x2a x2n x2c)) := JR.new (p := (r ++ [Pl.nul, Pl.nul], .slice v10a 5 v10c)) HJ.out.1 HO10.out HK10.out
              have how2 := HJ10.out.own2
              have hz10 := hb10.size
              clear hown9 hown10 hg10 hnil10 ho10 hb10 HK9 HK10 HB9 HO10 HJ
              go_wp2_with (at_builtin; refine wpList_append_own_at _ rfl (.tmp 193) (.tmp 195) 29 rfl w8.heap.size 32 j0 _ 1 24 Tryz.underlying29 HInr.out.1 HInr.out.2.1 HInr.out.2.2.1 HInr.out.2.2.2 rfl (by decide) _ _ _ rfl (how2.alloc _) ⟨w10.heap.size, 0, none⟩ 1 1 [.slice v10a 5 v10c] rfl rfl ?m1 ?m2 ?m3 ?m4 ?m5 ?_)
              case m1 => exact news_at w10 [.slice v10a 5 v10c] 32
              case m2 => intro x hx; simp at hx; subst hx; rfl
              case m3 => unfold maxLen; omega
              case m4 => omega
              case m5 => simp; omega
              intro v12 w12 hown12 hg12 hnil12 ho12
              have hba : Below w10.heap.size w10 (w10.alloc (.cells #[.slice v10a 5 v10c] 32)) := (Below.refl _ _).alloc (Nat.le_refl _) _
              have hj12 := (HJ10.out.below hba).right (p := (r ++ [Pl.nul, Pl.nul], .slice v10a 5 v10c)) (HP10.out.below hba) hown12 hg12 (by simpa using ho12)
              have HF : Hid (JI w8 w12 a2 (b2 ++ [(r ++ [Pl.nul, Pl.nul], .slice v10a 5 v10c)]) (.slice x1a x1n x1c) v12 ∧ a2.map (·.1) = (rt.take (i + 1)).flatMap (Pl.jOf c ru) ∧ (b2 ++ [(r ++ [Pl.nul, Pl.nul], Value.slice v10a 5 v10c)]).map (·.1) = (rt.take (i + 1)).flatMap (Pl.jOuter c ru)) := by
                refine ⟨hj12, ?_, ?_⟩
                · rw [HFt.out]; exact HQ2.out.1
                · rw [HFo.out, HOe.out, List.map_append, HQ2.out.2.1, HJe.out, List.append_nil]; rfl
              have hlb : (b2 ++ [(r ++ [Pl.nul, Pl.nul], Value.slice v10a 5 v10c)]).length ≤ 8 * (i + 1) := by simp; omega
              obtain ⟨y2a, y2n, y2c, rfl⟩ := own_slice hown12
              generalize b2 ++ [(r ++ [Pl.nul, Pl.nul], Value.slice v10a 5 v10c)] = b3' at *
              clear hown12 hg12 hnil12 ho12 hba hj12 how2 HJ10 HP10 HQ2 HFt HFo HOe HJe
              go_wp2_with fail
              go_roundw
              case rel => exact ⟨i + 1, a2, b3', by omega, by go_num, by omega, hlb, HF.out⟩
              case measure => simp [intOf]; omega
      · obtain rfl : i = rt.length := by omega
        have hbI := HI.out.1.bel
        have hw1 := HI.out.1.mato1
        have hw2 := HI.out.1.mato2
        rw [HI.out.2.1, List.take_length] at hw1
        rw [HI.out.2.2, List.take_length] at hw2
        have hla : (rt.flatMap (Pl.jOf c ru)).length ≤ 100000 := by
          have := congrArg List.length HI.out.2.1
          rw [List.take_length, List.length_map] at this
          omega
        have hlb : (rt.flatMap (Pl.jOuter c ru)).length ≤ 100000 := by
          have := congrArg List.length HI.out.2.2
          rw [List.take_length, List.length_map] at this
          omega
        have HW1 := hide hw1
        have HW2 := hide hw2
        have HRa := hide (And.intro hla (Pl.jOf_rows (c := c) HT.out HU.out))
        have HRb := hide (And.intro hlb (Pl.jOuter_rows (c := c) HT.out HU.out))
        have HBI := hide hbI
        have HC := hide (sameY _ _ _ wr (HM6.out.below hbI) hw1 hla HRa.out.2)
        have HC2 : Hid (∀ W, Below wr.heap.size wr W → _) := fun W hb => sameY _ _ _ W ((HM7.out.below HBI.out).below hb) (HW2.out.below hb) HRb.out.1 HRb.out.2
        have HC3 : Hid (∀ W, Below wr.heap.size wr W → _) := fun W hb => sameY _ _ _ W ((HM8'.out.below HBI.out).below hb) (HW1.out.below hb) HRa.out.1 HRa.out.2
        have HEnd : Hid (∀ W, Below wr.heap.size wr W → Below bb w W) := fun W hb => by
          have h1 := HBw.out
          have h2 : bb ≤ w8.heap.size := by have := h1.size; have := HBB.out; omega
          exact (h1.trans (HBI.out.mono h2)).trans (hb.mono (by have := HBI.out.size; omega))
        clear hbI hw1 hw2 hla hlb HI HW1 HW2 HRa HRb HM3 HM4 HM5 HM6 HM7 HM8'
        go_wp2_with fail
        refine (unhide HC).mono ?_
        rintro e w9 ⟨rfl, hb9⟩
        have HB9 := hide hb9
        clear hb9 HC
        go_wp2_with fail
        refine ((unhide HC2) _ HB9.out).mono ?_
        rintro e w10 ⟨rfl, hb10⟩
        have HB10 := hide (HB9.out.trans (hb10.mono HB9.out.size))
        clear hb10 HC2 HB9
        go_wp2_with fail
        refine ((unhide HC3) _ HB10.out).mono ?_
        rintro e w11 ⟨rfl, hb11⟩
        have HB11 := hide (HEnd.out _ (HB10.out.trans (hb11.mono HB10.out.size)))
        clear hb11 HC3 HB10 HEnd
        go_wp2_with fail
        go_ret
        exact ⟨rfl, by rw [HBB.out]; exact HB11.out⟩
end Go.Proofs.YtojdpjpldokjmaaGreatDoor
