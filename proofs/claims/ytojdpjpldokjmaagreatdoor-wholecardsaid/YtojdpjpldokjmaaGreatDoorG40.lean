/- The keep Known: the walk. -/
import Derived.Test.YtojdpjpldokjmaaGreatDoorG33
import Derived.Test.YtojdpjpldokjmaaGreatDoorG38
import Derived.Test.YtojdpjpldokjmaaGreatDoorG39
namespace Go.Proofs.YtojdpjpldokjmaaGreatDoor
open Go.RowKit Go.Deep
set_option linter.unusedSimpArgs false
set_option linter.unusedVariables false

/-- The globals that Save leans on, none of them the database's. -/
structure SvG (w : World) (M : Nat → Prop) : Prop where
  g : SaveG w
  not : ∀ k, k = 5 ∨ k = 2 ∨ k = 0 → ¬ M k
theorem SvG.step {w w' : World} {M M' : Nat → Prop} (h : SvG w M) (hs : Stp w M w' M') : SvG w' M' :=
  ⟨h.g.keep (fun k hk => hs.keep.block k ⟨h.g.lts k hk, h.not k hk⟩), fun k hk => hs.not (h.g.lts k hk) (h.not k hk)⟩
theorem SvG.new {w : World} (h : SaveG w) : SvG (w.alloc dbO) (oneB w.heap.size) :=
  ⟨h.below ((Below.refl _ _).alloc (Nat.le_refl _) _), fun k hk e => by
    have h1 := h.lts k hk
    have e' : k = w.heap.size := e
    omega⟩
/-- A row, as it is laid new. -/
theorem row_new {W : World} {k : Nat} {r : List Pl.V} {C : Array Value} (h : W.heap[k]? = some (.cells C 34)) (hC : C = (rowC r).toArray) : RowsW W W.heap.size 3 vC r (.slice (some ⟨k, 0, none⟩) r.length r.length) := by
  subst hC
  have hz := lt_of_blk h
  refine ⟨_, _, rfl, fun hn => ⟨k, rfl, hz, fun i x hx j u hu => ?_⟩⟩
  rw [blk_cell h]
  have h1 := flat_at vC 3 (fun _ => rfl) r i j x u hx hu
  simpa [rowC] using h1
/-- Rows, as they are laid new. -/
theorem mat_new {W : World} {k : Nat} {rows : List (List Pl.V)} {us : List Value} (h : W.heap[k]? = some (.cells us.toArray 32)) (hl : us.length = rows.length) (hr : ∀ (i : Nat) (r : List Pl.V) (u : Value), rows[i]? = some r → us[i]? = some u → RowsW W W.heap.size 3 vC r u) : MatO W rows (.slice (some ⟨k, 0, none⟩) rows.length rows.length) := by
  refine ⟨_, _, rfl, Nat.le_refl _, fun _ => ⟨k, 0, rfl, lt_of_blk h, fun i r hi => ?_⟩⟩
  have hlt : i < us.length := by rw [hl]; exact (List.getElem?_eq_some_iff.1 hi).1
  refine ⟨us[i], ?_, hr i r _ hi (List.getElem?_eq_getElem hlt)⟩
  rw [blk_cell h]
  simp [hlt]
def kWant (k : Nat) : List (List Pl.V) := match k with
  | 0 => Pl.kWant0 | 1 => Pl.kWant1 | 2 => Pl.kWant2 | 3 => Pl.kWant3 | 4 => Pl.kWant4 | _ => Pl.kWant5
/-- What Known lays: four values, the texts, the rows that are wanted. -/
def rowO (r : List Pl.V) : Obj := .cells (rowC r).toArray 34
def rowS (k n : Nat) : Value := .slice (some ⟨k, 0, none⟩) n n
def kObjs (s : Nat) : List Obj :=
  [rowO [Pl.nV 1], rowO [Pl.kX], rowO [Pl.kIts], rowO [Pl.tru false],
   .cells #[.string ⟨Pl.kSel0.toArray⟩, .string ⟨Pl.kSel1.toArray⟩, .string ⟨Pl.kSel2.toArray⟩, .string ⟨Pl.kSel3.toArray⟩, .string ⟨Pl.kSel4.toArray⟩, .string ⟨Pl.kSel5.toArray⟩] 9,
   rowO [Pl.nV 1, Pl.kX], rowO [Pl.nul, Pl.kIts], .cells #[rowS (s + 5) 2, rowS (s + 6) 2] 32,
   rowO [Pl.nV 2], .cells #[rowS (s + 8) 1] 32,
   rowO [Pl.kX], rowO [Pl.kIts], .cells #[rowS (s + 10) 1, rowS (s + 11) 1] 32,
   rowO [Pl.tru false], rowO [Pl.tru true], .cells #[rowS (s + 13) 1, rowS (s + 14) 1] 32,
   rowO [Pl.nV 1, Pl.nV 1], rowO [Pl.nul, Pl.nul], .cells #[rowS (s + 16) 2, rowS (s + 17) 2] 32,
   rowO [Pl.tru false], rowO [Pl.tru false], .cells #[rowS (s + 19) 1, rowS (s + 20) 1] 32,
   .cells #[rowS (s + 7) 2, rowS (s + 9) 1, rowS (s + 12) 2, rowS (s + 15) 2, rowS (s + 18) 2, rowS (s + 21) 2] 29]
theorem fold_old : ∀ (os : List Obj) (w : World) (k : Nat), k < w.heap.size → (os.foldl World.alloc w).heap[k]? = w.heap[k]?
  | [], w, k, h => rfl
  | o :: os, w, k, h => by
    rw [List.foldl_cons, fold_old os (w.alloc o) k (by simp; omega)]
    exact ((Below.refl w.heap.size w).alloc (Nat.le_refl _) o).block k h
theorem fold_at : ∀ (os : List Obj) (w : World) (j : Nat) (o : Obj), os[j]? = some o → (os.foldl World.alloc w).heap[w.heap.size + j]? = some o
  | [], w, j, o, h => by simp at h
  | x :: os, w, 0, o, h => by
    simp at h
    subst h
    rw [List.foldl_cons, Nat.add_zero, fold_old os (w.alloc x) _ (by simp)]
    exact blk_new w x
  | x :: os, w, j + 1, o, h => by
    rw [List.foldl_cons]
    have := fold_at os (w.alloc x) j o (by simpa using h)
    rw [show (w.alloc x).heap.size + j = w.heap.size + (j + 1) by simp; omega] at this
    exact this
theorem fold_below : ∀ (os : List Obj) (w w0 : World) (B : Nat), Below B w0 w → B ≤ w.heap.size → Below B w0 (os.foldl World.alloc w)
  | [], w, w0, B, h, _ => h
  | o :: os, w, w0, B, h, hB => fold_below os (w.alloc o) w0 B (h.alloc hB o) (by simp; omega)
def KnB (W : World) (s : Nat) : Prop := ∀ (j : Nat) (o : Obj), (kObjs s)[j]? = some o → W.heap[s + j]? = some o
structure KnW (w W : World) (g h : Nat) : Prop where
  eg : g = w.heap.size + 4
  eh : h = w.heap.size + 22
  bel : Below w.heap.size w W
  blk : KnB W w.heap.size
theorem KnW.new (w : World) : KnW w ((kObjs w.heap.size).foldl World.alloc w) (w.heap.size + 4) (w.heap.size + 22) :=
  ⟨rfl, rfl, fold_below _ _ _ _ (Below.refl _ _) (Nat.le_refl _), fun j o h => fold_at _ _ _ _ h⟩
theorem KnB.step {W W' : World} {s : Nat} {M M' : Nat → Prop} (h : KnB W s) (hM : ∀ k, M k → k < s) (hs : Stp W M W' M') : KnB W' s := fun j o ho => (hs.blk (h j o ho) (fun hm => by have := hM _ hm; omega)).1
def kV (s k : Nat) : Value := match k with
  | 0 => rowS (s + 7) 2 | 1 => rowS (s + 9) 1 | 2 => rowS (s + 12) 2 | 3 => rowS (s + 15) 2 | 4 => rowS (s + 18) 2 | _ => rowS (s + 21) 2
theorem KnB.row {W : World} {s : Nat} (h : KnB W s) (j : Nat) (r : List Pl.V) (hj : (kObjs s)[j]? = some (rowO r)) (n : Nat) (hn : r.length = n) : RowsW W W.heap.size 3 vC r (rowS (s + j) n) := by
  subst hn
  exact row_new (h j _ hj) rfl
theorem mat2 {W : World} {s j a b n m : Nat} {r q : List Pl.V} (h : KnB W s) (hj : (kObjs s)[j]? = some (.cells #[rowS (s + a) n, rowS (s + b) m] 32)) (h1 : (kObjs s)[a]? = some (rowO r)) (h2 : (kObjs s)[b]? = some (rowO q)) (hn : r.length = n) (hm : q.length = m) : MatO W [r, q] (rowS (s + j) 2) := by
  refine mat_new (us := [rowS (s + a) n, rowS (s + b) m]) (h j _ hj) rfl (fun i x u hx hu => ?_)
  match i with
  | 0 => simp at hx hu; subst hx hu; exact h.row a _ h1 n hn
  | 1 => simp at hx hu; subst hx hu; exact h.row b _ h2 m hm
  | i + 2 => simp at hx
theorem mat1 {W : World} {s j a n : Nat} {r : List Pl.V} (h : KnB W s) (hj : (kObjs s)[j]? = some (.cells #[rowS (s + a) n] 32)) (h1 : (kObjs s)[a]? = some (rowO r)) (hn : r.length = n) : MatO W [r] (rowS (s + j) 1) := by
  refine mat_new (us := [rowS (s + a) n]) (h j _ hj) rfl (fun i x u hx hu => ?_)
  match i with
  | 0 => simp at hx hu; subst hx hu; exact h.row a _ h1 n hn
  | i + 1 => simp at hx
theorem KnB.mat {W : World} {s : Nat} (h : KnB W s) (k : Nat) (hk : k < 6) : MatO W (kWant k) (kV s k) := by
  match k, hk with
  | 0, _ => exact mat2 h (a := 5) (b := 6) rfl rfl rfl rfl rfl
  | 1, _ => exact mat1 h (a := 8) rfl rfl rfl
  | 2, _ => exact mat2 h (a := 10) (b := 11) rfl rfl rfl rfl rfl
  | 3, _ => exact mat2 h (a := 13) (b := 14) rfl rfl rfl rfl rfl
  | 4, _ => exact mat2 h (a := 16) (b := 17) rfl rfl rfl rfl rfl
  | 5, _ => exact mat2 h (a := 19) (b := 20) rfl rfl rfl rfl rfl
end Go.Proofs.YtojdpjpldokjmaaGreatDoor
