/- SELECT in the shape of the code: plainly. -/
import Derived.Test.YtojdpjpldokjmaaGreatDoorJ08
namespace Go.Proofs.YtojdpjpldokjmaaGreatDoor
namespace Pl
open Go.Deep

theorem beside_true (cols : List Col) (r : List V) : ∀ qs : List (List V), beside cols (cond .nil) r qs = .ok (qs.map (r ++ ·))
  | [] => rfl
  | q :: qs => by
    unfold beside
    rw [ev_true]
    simp only
    rw [beside_true cols r qs]
    simp
/-- The first source, beside one row without values. -/
theorem join_first (cols : List Col) (n : Nat) (qs : List (List V)) : joinRows cols (cond .nil) false n qs [[]] = .ok qs := by
  unfold joinRows
  rw [beside_true]
  simp [joinRows]
theorem cond_id {t : T} (h : okT t) : cond t = t := by
  cases t with
  | nil => exact absurd h.1 id
  | node => rfl
/-- Sources joined in turn, from one row without values on. -/
def joinsAll (db : DB) : List Col → List (List V) → List Nat → List It → Out (List (List V))
  | cols, rows, i :: is, it :: its => match joinRows (cols ++ scope it.other (tabD db i)) (cond it.tree) it.mark (tabD db i).cols.length (tabD db i).rows rows with
    | .error e => .error e
    | .ok z => joinsAll db (cols ++ scope it.other (tabD db i)) z is its
  | _, rows, _, _ => .ok rows
def onsAll (db : DB) : List Col → List Nat → List It → Option Nat
  | cols, i :: is, it :: its => match tcAs (cols ++ scope it.other (tabD db i)) (cond it.tree) 3 with
    | some e => some e
    | none => onsAll db (cols ++ scope it.other (tabD db i)) is its
  | _, _, _ => none
theorem joinsAll_go (db : DB) : ∀ (cols : List Col) (rows : List (List V)) (is : List Nat) (its : List It), (∀ i ∈ its, okT i.tree) → joinsAll db cols rows is its = joinsGo db cols rows is its
  | cols, rows, [], its, _ => by cases its <;> rfl
  | cols, rows, i :: is, [], _ => rfl
  | cols, rows, i :: is, it :: its, h => by
    unfold joinsAll joinsGo
    rw [cond_id (h it (by simp))]
    cases joinRows (cols ++ scope it.other (tabD db i)) it.tree it.mark (tabD db i).cols.length (tabD db i).rows rows with
    | error e => rfl
    | ok z => exact joinsAll_go db _ _ _ _ (fun j hj => h j (by simp [hj]))
theorem onsAll_go (db : DB) : ∀ (cols : List Col) (is : List Nat) (its : List It), (∀ i ∈ its, okT i.tree) → onsAll db cols is its = onsGo db cols is its
  | cols, [], its, _ => by cases its <;> rfl
  | cols, i :: is, [], _ => rfl
  | cols, i :: is, it :: its, h => by
    unfold onsAll onsGo
    rw [cond_id (h it (by simp))]
    cases tcAs (cols ++ scope it.other (tabD db i)) it.tree 3 with
    | some e => rfl
    | none => exact onsAll_go db _ _ _ (fun j hj => h j (by simp [hj]))
theorem srcsGo_len {db : DB} : ∀ {its : List It} {called : List (List UInt8)} {is : List Nat}, srcsGo db called its = .ok is → is.length = its.length ∧ ∀ i ∈ is, i < db.length
  | [], _, is, h => by simp [srcsGo] at h; subst h; simp
  | it :: its, called, is, h => by
    unfold srcsGo at h
    cases ht : tabAt db it.name with
    | none => rw [ht] at h; cases h
    | some i =>
      rw [ht] at h
      simp only at h
      split at h
      · cases h
      · cases hs : srcsGo db (called ++ [it.other]) its with
        | error e => rw [hs] at h; cases h
        | ok js =>
          rw [hs] at h
          simp at h; subst h
          obtain ⟨a, b⟩ := srcsGo_len hs
          refine ⟨by simp [a], fun k hk => ?_⟩
          rcases List.mem_cons.1 hk with rfl | hk
          · exact tabAt_lt ht
          · exact b k hk
/-- The code's SELECT. -/
def choose (db : DB) (s : St) : Out (List (List V)) := match srcsGo db [] s.sources with
  | .error e => .error e
  | .ok is => match onsAll db [] is s.sources with
    | some e => .error e
    | none => match tcAll (scopes db is s.sources) (valuesOf s (scopes db is s.sources)) with
      | some e => .error e
      | none => match tcAs (scopes db is s.sources) (cond s.whr) 3 with
        | some e => .error e
        | none => match tcAll (scopes db is s.sources) (s.keys.map (·.tree)) with
          | some e => .error e
          | none => match joinsAll db [] [[]] is s.sources with
            | .error e => .error e
            | .ok rows => chosen (scopes db is s.sources) s rows
theorem choose_do {db : DB} {s : St} (hs : okSt s) (hk : s.kind = 115) : doSelect db s = match choose db s with
    | .error e => (db, no e)
    | .ok out => (db, ⟨out, 0, 0⟩) := by
  obtain ⟨a, m, hsrc, ha, hmark, _, hm⟩ := hs.sources hk
  unfold doSelect choose
  rw [hsrc]
  cases h0 : srcsGo db [] (a :: m) with
  | error e => rfl
  | ok is =>
    obtain ⟨hl, _⟩ := srcsGo_len h0
    cases is with
    | nil => simp at hl
    | cons i is =>
      have e1 : scopes db ((i :: is).take 1) ((a :: m).take 1) = scope a.other (tabD db i) := by simp [scopes]
      have e2 : onsAll db [] (i :: is) (a :: m) = onsGo db (scope a.other (tabD db i)) is m := by
        unfold onsAll
        rw [ha, tc_true]
        simp only [List.nil_append]
        exact onsAll_go db _ _ _ hm
      have e3 : joinsAll db [] [[]] (i :: is) (a :: m) = joinsGo db (scope a.other (tabD db i)) (tabD db i).rows is m := by
        unfold joinsAll
        rw [ha, hmark, join_first]
        simp only [List.nil_append]
        exact joinsAll_go db _ _ _ _ hm
      simp only [e1, e2, e3, List.drop_succ_cons, List.drop_zero, List.headD_cons]
      cases onsGo db (scope a.other (tabD db i)) is m with
      | some e => rfl
      | none =>
        simp only
        cases tcAll (scopes db (i :: is) (a :: m)) (valuesOf s (scopes db (i :: is) (a :: m))) with
        | some e => rfl
        | none =>
          simp only
          cases tcAs (scopes db (i :: is) (a :: m)) (cond s.whr) 3 with
          | some e => rfl
          | none =>
            simp only
            cases tcAll (scopes db (i :: is) (a :: m)) (s.keys.map (·.tree)) with
            | some e => rfl
            | none =>
              simp only
              cases joinsGo db (scope a.other (tabD db i)) (tabD db i).rows is m with
              | error e => rfl
              | ok rows =>
                simp only
                cases chosen (scopes db (i :: is) (a :: m)) s rows with
                | error e => rfl
                | ok out => rfl

/-- Rows beside one row. -/
theorem beside_ok {a b : List Col} {c : T} {r : List V} (hr : RowFor a r) : ∀ {qs z : List (List V)}, (∀ q ∈ qs, RowFor b q) → beside (a ++ b) c r qs = .ok z → (∀ x ∈ z, RowFor (a ++ b) x) ∧ z.length ≤ qs.length
  | [], z, _, h => by simp [beside] at h; subst h; simp
  | q :: qs, z, hq, h => by
    unfold beside at h
    cases he : ev (a ++ b) (r ++ q) c with
    | error e => rw [he] at h; cases h
    | ok v =>
      rw [he] at h
      simp only at h
      cases hs : beside (a ++ b) c r qs with
      | error e => rw [hs] at h; cases h
      | ok y =>
        rw [hs] at h
        simp only at h
        injection h with h
        obtain ⟨h1, h2⟩ := beside_ok hr (fun q h => hq q (by simp [h])) hs
        split at h
        · subst h
          refine ⟨fun x hx => ?_, by simp; omega⟩
          rcases List.mem_cons.1 hx with rfl | hx
          · exact hr.append (hq q (by simp))
          · exact h1 x hx
        · subst h
          exact ⟨h1, by simp; omega⟩
theorem joinRows_ok {a b : List Col} {c : T} {left : Bool} {qs : List (List V)} (hq : ∀ q ∈ qs, RowFor b q) (h25 : qs.length ≤ 25) : ∀ {rows z : List (List V)}, (∀ r ∈ rows, RowFor a r) → joinRows (a ++ b) c left b.length qs rows = .ok z → (∀ x ∈ z, RowFor (a ++ b) x) ∧ z.length ≤ rows.length * 25
  | [], z, _, h => by simp [joinRows] at h; subst h; simp
  | r :: rs, z, hr, h => by
    unfold joinRows at h
    cases he : beside (a ++ b) c r qs with
    | error e => rw [he] at h; cases h
    | ok y =>
      rw [he] at h
      simp only at h
      cases hs : joinRows (a ++ b) c left b.length qs rs with
      | error e => rw [hs] at h; cases h
      | ok u =>
        rw [hs] at h
        simp only at h
        injection h with h
        obtain ⟨h1, h2⟩ := beside_ok (hr r (by simp)) hq he
        obtain ⟨h3, h4⟩ := joinRows_ok hq h25 (fun r h => hr r (by simp [h])) hs
        subst h
        constructor
        · intro x hx
          rcases List.mem_append.1 hx with hx | hx
          · split at hx
            · simp at hx; subst hx
              exact (hr r (by simp)).append (RowFor.nuls b)
            · exact h1 x hx
          · exact h3 x hx
        · rw [List.length_append, List.length_cons]
          have : (if (left && y.isEmpty) = true then [r ++ List.replicate b.length nul] else y).length ≤ 25 := by
            split
            · simp
            · omega
          omega
theorem joinsAll_ok {db : DB} (h : okDB db) : ∀ {is : List Nat} {its : List It} {cols : List Col} {rows z : List (List V)}, is.length = its.length → (∀ i ∈ is, i < db.length) → (∀ r ∈ rows, RowFor cols r) → joinsAll db cols rows is its = .ok z → (∀ x ∈ z, RowFor (cols ++ scopes db is its) x) ∧ z.length ≤ rows.length * 25 ^ is.length
  | [], its, cols, rows, z, hl, _, hr, hz => by
    cases its with
    | nil => simp [joinsAll] at hz; subst hz; simpa [scopes] using hr
    | cons => simp at hl
  | i :: is, [], cols, rows, z, hl, _, hr, hz => by simp at hl
  | i :: is, it :: its, cols, rows, z, hl, hi, hr, hz => by
    unfold joinsAll at hz
    have htab := h.2 _ (tabD_mem (hi i (by simp)))
    cases he : joinRows (cols ++ scope it.other (tabD db i)) (cond it.tree) it.mark (tabD db i).cols.length (tabD db i).rows rows with
    | error e => rw [he] at hz; cases hz
    | ok y =>
      rw [he] at hz
      rw [← scope_len it.other] at he
      obtain ⟨h1, h2⟩ := joinRows_ok (fun q hq => (htab.rows q hq).src) htab.nrows hr he
      obtain ⟨h3, h4⟩ := joinsAll_ok h (by simpa using hl) (fun j hj => hi j (by simp [hj])) h1 hz
      refine ⟨fun x hx => by have := h3 x hx; simpa [scopes] using this, ?_⟩
      rw [List.length_cons, Nat.pow_succ]
      calc z.length ≤ y.length * 25 ^ is.length := h4
        _ ≤ rows.length * 25 * 25 ^ is.length := Nat.mul_le_mul_right _ h2
        _ = rows.length * (25 ^ is.length * 25) := by rw [Nat.mul_assoc, Nat.mul_comm 25]
theorem evRows_ok {cols : List Col} {ts : List T} (ht : ∀ t ∈ ts, okT t) : ∀ {rows out : List (List V)}, (∀ r ∈ rows, RowFor cols r) → evRows cols ts rows = .ok out → out.length = rows.length ∧ ∀ v ∈ out, v.length = ts.length ∧ okRow v
  | [], out, _, h => by simp [evRows] at h; subst h; simp
  | r :: rs, out, hr, h => by
    unfold evRows at h
    cases he : evAll cols r ts with
    | error e => rw [he] at h; cases h
    | ok v =>
      rw [he] at h
      simp only at h
      cases hs : evRows cols ts rs with
      | error e => rw [hs] at h; cases h
      | ok us =>
        rw [hs] at h
        simp at h; subst h
        obtain ⟨a, b⟩ := evRows_ok ht (fun r h => hr r (by simp [h])) hs
        refine ⟨by simp [a], fun u hu => ?_⟩
        rcases List.mem_cons.1 hu with rfl | hu
        · exact evAll_ok (hr r (by simp)) ht he
        · exact b u hu
theorem evRows_types {cols : List Col} {ts : List T} (ht : ∀ t ∈ ts, okT t) (hty : ∀ t ∈ ts, ∃ ty, tc cols t = .ok ty) : ∀ {rows out : List (List V)}, (∀ r ∈ rows, RowFor cols r) → evRows cols ts rows = .ok out → ∀ v ∈ out, ranksOf (tysOf cols ts) v
  | [], out, _, h => by simp [evRows] at h; subst h; simp
  | r :: rs, out, hr, h => by
    unfold evRows at h
    cases he : evAll cols r ts with
    | error e => rw [he] at h; cases h
    | ok v =>
      rw [he] at h
      simp only at h
      cases hs : evRows cols ts rs with
      | error e => rw [hs] at h; cases h
      | ok us =>
        rw [hs] at h
        simp at h; subst h
        intro u hu
        rcases List.mem_cons.1 hu with rfl | hu
        · exact evAll_types (hr r (by simp)) ht hty he
        · exact evRows_types ht hty (fun r h => hr r (by simp [h])) hs u hu
/-- An element put into what is sorted, from behind. -/
theorem ins_done {α : Type} {le : α → α → Bool} (h : Ord le) {p q : List α} {x : α} (hs : (p ++ q).Pairwise (fun a b => le a b = true)) (hp : p = [] ∨ ∃ y p', p = p' ++ [y] ∧ le y x = true) (hq : ∀ y ∈ q, le y x = false) : mrg le (p ++ q) [x] = p ++ x :: q := by
  refine mrg_last ?_ hq
  rcases hp with rfl | ⟨y, p', rfl, hy⟩
  · simp
  · intro z hz
    rcases List.mem_append.1 hz with hz | hz
    · rw [List.append_assoc, List.pairwise_append] at hs
      exact h.trans _ _ _ (hs.2.2 z hz y (by simp)) hy
    · simp at hz; subst hz; exact hy
end Pl
end Go.Proofs.YtojdpjpldokjmaaGreatDoor
/- Reckoned, plainly: the answers of its statements. -/
namespace Go.Proofs.YtojdpjpldokjmaaGreatDoor
namespace Pl
open Go.Deep

theorem exec_insert {db : DB} {text : List UInt8} {s : St} (hp : pParse text = some s) (hk : s.kind = 105) : exec db text = doInsert db s := by
  unfold exec; rw [hp]; simp only; unfold doSt; rw [if_neg (by omega), if_pos hk]
theorem exec_select {db : DB} {text : List UInt8} {s : St} (hp : pParse text = some s) (hk : s.kind = 115) : exec db text = doSelect db s := by
  unfold exec; rw [hp]; simp only; unfold doSt; rw [if_neg (by omega), if_neg (by omega), if_neg (by omega), if_neg (by omega)]
theorem doInsert_of {db : DB} {s : St} {i : Nat} {row : List V} (h1 : tabAt db s.table = some i) (h2 : s.items.length = (tabD db i).cols.length) (h3 : tcRow (s.items.map (·.tree)) ((tabD db i).cols.map (·.2)) = none) (h4 : evAll [] [] (s.items.map (·.tree)) = .ok row) (h5 : (tabD db i).rows.length ≠ 25) : doInsert db s = (setRows db i ((tabD db i).rows ++ [row]), ⟨[], 1, 0⟩) := by
  unfold doInsert
  rw [h1]
  simp only
  rw [if_neg (fun h => h h2), h3]
  simp only
  rw [h4]
  simp only
  rw [if_neg h5]
theorem doSelect_of {db : DB} {s : St} {is : List Nat} {cols : List Col} {rows : List (List V)} (h1 : srcsGo db [] s.sources = .ok is) (hc : scopes db is s.sources = cols) (h2 : onsGo db (scopes db (is.take 1) (s.sources.take 1)) (is.drop 1) (s.sources.drop 1) = none) (h3 : tcAll cols (valuesOf s cols) = none) (h4 : tcAs cols (cond s.whr) 3 = none) (h5 : tcAll cols (s.keys.map (·.tree)) = none)
    (h6 : joinsGo db (scopes db (is.take 1) (s.sources.take 1)) (tabD db (is.headD 0)).rows (is.drop 1) (s.sources.drop 1) = .ok rows) : doSelect db s = match chosen cols s rows with
      | .error e => (db, no e)
      | .ok out => (db, ⟨out, 0, 0⟩) := by
  unfold doSelect
  rw [h1]
  simp only
  rw [h2, hc]
  simp only
  rw [h3]
  simp only
  rw [h4]
  simp only
  rw [h5]
  simp only
  rw [h6]
  simp only
  cases chosen cols s rows <;> rfl
def nV (n : Int) : V := ⟨1, n, []⟩
theorem numP_len {n : Int} (h : in64 n) : (numP n).length ≤ 30 := by
  unfold numP
  split
  · decide
  split
  · have := (dec_ok (n := (-n).toNat) (by unfold in64 at h; omega)).2.2.2; simp; omega
  · have := (dec_ok (n := n.toNat) (by unfold in64 at h; omega)).2.2.2; omega
def numPc (n : Int) : Pc := ⟨numP n, numK n, numT n⟩
theorem numPc_ok {n : Int} (h : in64 n) : (numPc n).ok := ⟨numP_cl h, (numK_vl n).mono (by decide), by
  show numK n ≠ []
  unfold numK; split
  · simp
  split <;> simp⟩
theorem ev_two {op : Nat} {x y : T} {cols : List Col} {row : List V} {u v : V} (h6 : 6 ≤ op) (h16 : op ≤ 16) (hx : ev cols row x = .ok u) (hy : ev cols row y = .ok v) : ev cols row (tTwo op x y) = ap2 op u v := by
  unfold tTwo
  rw [ev]
  rw [if_neg (show ¬ op = 0 by omega), if_neg (show ¬ op = 1 by omega), hx]
  simp only
  rw [if_neg (show ¬ op ≤ 5 by omega), if_neg (fun h => absurd h.1 (show ¬ 17 ≤ op by omega)), hy]
theorem ranged_in {n : Int} (h : in64 n) : ranged n = .ok (nV n) := by
  unfold ranged; exact if_pos h
end Pl
end Go.Proofs.YtojdpjpldokjmaaGreatDoor
/- base, plainly: the database that most statements of rowmillkeep begin with. -/
namespace Go.Proofs.YtojdpjpldokjmaaGreatDoor
namespace Pl
open Go.Deep

/-- Which of n things a raw number speaks of. -/
def pickN (c : Int) (n : Nat) : Nat := ((if c < 0 then -(c + 1) else c) % n).toNat
theorem pickN_lt (c : Int) {n : Nat} (h : 0 < n) : pickN c n < n := by
  unfold pickN
  have h1 := Int.emod_nonneg (if c < 0 then -(c + 1) else c) (show (n : Int) ≠ 0 by omega)
  have h2 := Int.emod_lt_of_pos (if c < 0 then -(c + 1) else c) (show 0 < (n : Int) by omega)
  omega
def bCreateT : List UInt8 := [67, 82, 69, 65, 84, 69, 32, 84, 65, 66, 76, 69, 32, 116, 32, 40, 97, 32, 73, 78, 84, 44, 32, 98, 32, 84, 69, 88, 84, 44, 32, 99, 32, 66, 79, 79, 76, 41]
def bCreateU : List UInt8 := [67, 82, 69, 65, 84, 69, 32, 84, 65, 66, 76, 69, 32, 117, 32, 40, 97, 32, 73, 78, 84, 44, 32, 100, 32, 73, 78, 84, 41]
def bFirst : List UInt8 := [73, 78, 83, 69, 82, 84, 32, 73, 78, 84, 79, 32, 116, 32, 86, 65, 76, 85, 69, 83, 32, 40, 53, 44, 32, 39, 102, 105, 118, 101, 39, 44, 32, 84, 82, 85, 69, 41]
def bTab (rt ru : List (List V)) : DB := [⟨[116], [([97], 1), ([98], 2), ([99], 3)], rt⟩, ⟨[117], [([97], 1), ([100], 1)], ru⟩]
def tV (s : List UInt8) : V := ⟨2, 0, s⟩
def five : List UInt8 := [102, 105, 118, 101]
theorem b_createT : exec [] bCreateT = ([⟨[116], [([97], 1), ([98], 2), ([99], 3)], []⟩], ⟨[], 0, 0⟩) := by kernel_rfl
theorem b_createU : exec [⟨[116], [([97], 1), ([98], 2), ([99], 3)], []⟩] bCreateU = (bTab [] [], ⟨[], 0, 0⟩) := by kernel_rfl
def row0 : List V := [nV 5, tV five, tru true]
theorem b_first : exec (bTab [] []) bFirst = (bTab [row0] [], ⟨[], 1, 0⟩) := by kernel_rfl

/-- A piece that is a value whatever stands beside it: its worth. -/
structure Good1 (p : Pc) (v : V) (ty : Int) : Prop where
  ok : p.ok
  ev : ∀ cols row, ev cols row p.t = .ok v
  tc : ∀ cols, ∃ a, tc cols p.t = .ok a ∧ alike a ty = true
  okt : okT p.t
  len : p.x.length ≤ 60
def pcNull : Pc := ⟨[78, 85, 76, 76], [kt 45], tLit 0 0 []⟩
theorem pcNull_good (ty : Int) : Good1 pcNull nul ty := ⟨⟨cl_kw _ 45 rfl rfl (by kernel_rfl) (by decide), Sg.null.value.mono (by decide), by simp [pcNull]⟩, fun _ _ => rfl, fun _ => ⟨0, rfl, by simp [alike]⟩, by
  obtain ⟨a, b, c⟩ := lit_good (kind := 0) (n := 0) (s := []) (.inl ⟨rfl, rfl, rfl⟩)
  exact ⟨a, b, by show sz (tLit 0 0 []) ≤ 600; rw [c]; decide⟩, by decide⟩
theorem pcNum_good {n : Int} (h : in64 n) : Good1 (numPc n) (nV n) 1 := ⟨numPc_ok h, fun cols row => numT_ev h cols row, fun cols => ⟨1, numT_tc n cols, rfl⟩, numT_ok h, by have := numP_len h; show (numP n).length ≤ 60; omega⟩
def pcText (s : List UInt8) : Pc := ⟨39 :: (quote s ++ [39]), [⟨3, 0, s⟩], tLit 2 0 s⟩
theorem quote_len : ∀ s : List UInt8, (quote s).length ≤ 2 * s.length
  | [] => by simp [quote]
  | c :: s => by
    have := quote_len s
    unfold quote
    split <;> simp <;> omega
theorem pcText_ok {s : List UInt8} (h : s.length ≤ 40) : (pcText s).ok := ⟨fun y hy => by
    show toks (39 :: (quote s ++ [39] ++ y)) = _
    rw [List.append_assoc]
    exact toks_text h (sep_not39 hy), (Sg.text s).value.mono (by decide), by simp [pcText]⟩
theorem text_okT {s : List UInt8} (h : s.length ≤ 40) : okT (tLit 2 0 s) := by
  obtain ⟨a, b, c⟩ := lit_good (kind := 2) (n := 0) (s := s) (.inr (.inr (.inl ⟨rfl, rfl, h⟩)))
  exact ⟨a, b, by rw [c]; decide⟩
theorem pcText_good {s : List UInt8} (h : s.length ≤ 20) : Good1 (pcText s) (tV s) 2 := ⟨pcText_ok (by omega), fun _ _ => rfl, fun _ => ⟨2, rfl, rfl⟩, text_okT (by omega), by
  have := quote_len s
  show (39 :: (quote s ++ [39])).length ≤ 60
  simp; omega⟩
def pcTrue : Pc := ⟨[84, 82, 85, 69], [kt 46], tLit 3 1 []⟩
def pcFalse : Pc := ⟨[70, 65, 76, 83, 69], [kt 47], tLit 3 0 []⟩
theorem pcTrue_good : Good1 pcTrue (tru true) 3 := ⟨⟨cl_kw _ 46 rfl rfl (by kernel_rfl) (by decide), Sg.yes.value.mono (by decide), by simp [pcTrue]⟩, fun _ _ => rfl, fun _ => ⟨3, rfl, rfl⟩, by
  obtain ⟨a, b, c⟩ := lit_good (kind := 3) (n := 1) (s := []) (.inr (.inr (.inr ⟨rfl, .inr rfl, rfl⟩)))
  exact ⟨a, b, by show sz (tLit 3 1 []) ≤ 600; rw [c]; decide⟩, by decide⟩
theorem pcFalse_good : Good1 pcFalse (tru false) 3 := ⟨⟨cl_kw _ 47 rfl rfl (by kernel_rfl) (by decide), Sg.not_.value.mono (by decide), by simp [pcFalse]⟩, fun _ _ => rfl, fun _ => ⟨3, rfl, rfl⟩, by
  obtain ⟨a, b, c⟩ := lit_good (kind := 3) (n := 0) (s := []) (.inr (.inr (.inr ⟨rfl, .inl rfl, rfl⟩)))
  exact ⟨a, b, by show sz (tLit 3 0 []) ≤ 600; rw [c]; decide⟩, by decide⟩

/-- Values of a row, in turn. -/
def Goods : List Pc → List V → List Int → Prop
  | [], [], [] => True
  | p :: ps, v :: vs, t :: ts => Good1 p v t ∧ Goods ps vs ts
  | _, _, _ => False
theorem Goods.nil : Goods [] [] [] := trivial
theorem Goods.cons {p : Pc} {v : V} {t : Int} {ps : List Pc} {vs : List V} {ts : List Int} (h : Good1 p v t) (k : Goods ps vs ts) : Goods (p :: ps) (v :: vs) (t :: ts) := ⟨h, k⟩
theorem Goods.len : ∀ {ps : List Pc} {vs : List V} {ts : List Int}, Goods ps vs ts → vs.length = ps.length ∧ ts.length = ps.length
  | [], [], [], _ => ⟨rfl, rfl⟩
  | p :: ps, v :: vs, t :: ts, h => by have := Goods.len h.2; simp [this]
  | [], _ :: _, _, h => h.elim
  | [], [], _ :: _, h => h.elim
  | _ :: _, [], _, h => h.elim
  | _ :: _, _ :: _, [], h => h.elim
theorem Goods.all : ∀ {ps : List Pc} {vs : List V} {ts : List Int}, Goods ps vs ts → ∀ p ∈ ps, p.ok
  | [], _, _, _, p, hp => by cases hp
  | q :: ps, v :: vs, t :: ts, h, p, hp => by
    rcases List.mem_cons.1 hp with rfl | hp
    · exact h.1.ok
    · exact Goods.all h.2 p hp
  | _ :: _, [], _, h, _, _ => h.elim
  | _ :: _, _ :: _, [], h, _, _ => h.elim
theorem Goods.ev : ∀ {ps : List Pc} {vs : List V} {ts : List Int}, Goods ps vs ts → evAll [] [] (ps.map (·.t)) = .ok vs
  | [], [], [], _ => rfl
  | q :: ps, v :: vs, t :: ts, h => by
    show evAll [] [] (q.t :: ps.map (·.t)) = _
    unfold evAll
    rw [h.1.ev, Goods.ev h.2]
  | [], _ :: _, _, h => h.elim
  | [], [], _ :: _, h => h.elim
  | _ :: _, [], _, h => h.elim
  | _ :: _, _ :: _, [], h => h.elim
theorem Goods.tc : ∀ {ps : List Pc} {vs : List V} {ts : List Int}, Goods ps vs ts → tcRow (ps.map (·.t)) ts = none
  | [], [], [], _ => rfl
  | q :: ps, v :: vs, t :: ts, h => by
    obtain ⟨a, h1, h2⟩ := h.1.tc []
    show tcRow (q.t :: ps.map (·.t)) (t :: ts) = _
    unfold tcRow tcAs
    rw [h1]
    simp only
    rw [if_pos h2]
    exact Goods.tc h.2
  | [], _ :: _, _, h => h.elim
  | [], [], _ :: _, h => h.elim
  | _ :: _, [], _, h => h.elim
  | _ :: _, _ :: _, [], h => h.elim
/-- INSERT of good values into a table where there is room. -/
theorem ins_exec {db : DB} {name : List UInt8} (hn : NameOk name) {i : Nat} (hi : tabAt db name = some i) {ps : List Pc} {vs : List V} (hg : Goods ps vs ((tabD db i).cols.map (·.2))) (hne : ps ≠ []) (hr : (tabD db i).rows.length ≠ 25) {tail : List UInt8} (ht : toks tail = []) (hl : (insText name (ps.map (·.x)) tail).length ≤ 600) : exec db (insText name (ps.map (·.x)) tail) = (setRows db i ((tabD db i).rows ++ [vs]), ⟨[], 1, 0⟩) := by
  have hp := ins_parse hn hg.all hne ht hl
  have e : (st0 105 name (ps.map (fun p => itV p.t)) .nil).items.map (·.tree) = ps.map (·.t) := by
    show (ps.map (fun p => itV p.t)).map (·.tree) = _
    rw [List.map_map]; rfl
  rw [exec_insert hp rfl]
  have h2 := hg.len.2
  simp only [List.length_map] at h2
  refine doInsert_of (s := st0 105 name (ps.map (fun p => itV p.t)) .nil) hi ?_ ?_ ?_ hr
  · show (ps.map (fun p => itV p.t)).length = _
    simp; omega
  · rw [e]; exact hg.tc
  · rw [e]; exact hg.ev

/-- base's rows. -/
def pcA (k : Nat) : Pc := match k with | 0 => pcNull | 1 => numPc 0 | 2 => numPc 1 | 3 => numPc 2 | 4 => numPc (-3) | _ => numPc 5
def vA (k : Nat) : V := match k with | 0 => nul | 1 => nV 0 | 2 => nV 1 | 3 => nV 2 | 4 => nV (-3) | _ => nV 5
def pcB (k : Nat) : Pc := match k with | 0 => pcNull | 1 => pcText [120] | 2 => pcText [121] | 3 => pcText five | _ => pcText []
def vB (k : Nat) : V := match k with | 0 => nul | 1 => tV [120] | 2 => tV [121] | 3 => tV five | _ => tV []
def pcC (k : Nat) : Pc := match k with | 0 => pcNull | 1 => pcTrue | _ => pcFalse
def vC' (k : Nat) : V := match k with | 0 => nul | 1 => tru true | _ => tru false
theorem goodA (k : Nat) : Good1 (pcA k) (vA k) 1 := by
  unfold pcA vA
  split
  · exact pcNull_good 1
  all_goals exact pcNum_good (by decide)
theorem goodB (k : Nat) : Good1 (pcB k) (vB k) 2 := by
  unfold pcB vB
  split
  · exact pcNull_good 2
  all_goals exact pcText_good (by decide)
theorem goodC (k : Nat) : Good1 (pcC k) (vC' k) 3 := by
  unfold pcC vC'
  split
  · exact pcNull_good 3
  · exact pcTrue_good
  · exact pcFalse_good
def bT (v : Nat) : List Pc := [pcA (v % 6), pcB (v / 8 % 5), pcC (v / 64 % 3)]
def bU (v : Nat) : List Pc := [pcA (v % 6), numPc ((v / 256 % 4 : Nat) : Int)]
def rowT (v : Nat) : List V := [vA (v % 6), vB (v / 8 % 5), vC' (v / 64 % 3)]
def rowU (v : Nat) : List V := [vA (v % 6), nV ((v / 256 % 4 : Nat) : Int)]
def nT : List UInt8 := [116]
def nU : List UInt8 := [117]
theorem nT_ok : NameOk nT := ⟨rfl, rfl, by kernel_rfl⟩
theorem nU_ok : NameOk nU := ⟨rfl, rfl, by kernel_rfl⟩
theorem tab_t (rt ru : List (List V)) : tabAt (bTab rt ru) nT = some 0 := by simp [tabAt, bTab, nT, List.findIdx?_cons]
theorem tab_u (rt ru : List (List V)) : tabAt (bTab rt ru) nU = some 1 := by simp [tabAt, bTab, nU, List.findIdx?_cons]
theorem b_insT {rt ru : List (List V)} (v : Nat) (h : rt.length < 25) : exec (bTab rt ru) (insText nT ((bT v).map (·.x)) []) = (bTab (rt ++ [rowT v]) ru, ⟨[], 1, 0⟩) := by
  have hg : Goods (bT v) (rowT v) [1, 2, 3] := .cons (goodA _) (.cons (goodB _) (.cons (goodC _) .nil))
  rw [ins_exec nT_ok (tab_t rt ru) hg (by simp [bT]) (show rt.length ≠ 25 by omega) rfl ?_]
  · rfl
  · have h1 := (goodA (v % 6)).len
    have h2 := (goodB (v / 8 % 5)).len
    have h3 := (goodC (v / 64 % 3)).len
    simp [insText, nT, bT, sepJoin]
    omega
theorem b_insU {rt ru : List (List V)} (v : Nat) (h : ru.length < 25) : exec (bTab rt ru) (insText nU ((bU v).map (·.x)) []) = (bTab rt (ru ++ [rowU v]), ⟨[], 1, 0⟩) := by
  have hd : Good1 (numPc ((v / 256 % 4 : Nat) : Int)) (nV ((v / 256 % 4 : Nat) : Int)) 1 := pcNum_good (by unfold in64; omega)
  have hg : Goods (bU v) (rowU v) [1, 1] := .cons (goodA _) (.cons hd .nil)
  rw [ins_exec nU_ok (tab_u rt ru) hg (by simp [bU]) (show ru.length ≠ 25 by omega) rfl ?_]
  · rfl
  · have h1 := (goodA (v % 6)).len
    have h2 := hd.len
    simp [insText, nU, bU, sepJoin] at h2 ⊢
    omega
theorem b_parseT (v : Nat) : (insText nT ((bT v).map (·.x)) []).length ≤ 600 ∧ (pParse (insText nT ((bT v).map (·.x)) [])).map (·.kind) = some 105 := by
  have hg : Goods (bT v) (rowT v) [1, 2, 3] := .cons (goodA _) (.cons (goodB _) (.cons (goodC _) .nil))
  have hl : (insText nT ((bT v).map (·.x)) []).length ≤ 600 := by
    have h1 := (goodA (v % 6)).len
    have h2 := (goodB (v / 8 % 5)).len
    have h3 := (goodC (v / 64 % 3)).len
    simp [insText, nT, bT, sepJoin]
    omega
  exact ⟨hl, by rw [ins_parse nT_ok hg.all (by simp [bT]) rfl hl]; rfl⟩
theorem b_parseU (v : Nat) : (insText nU ((bU v).map (·.x)) []).length ≤ 600 ∧ (pParse (insText nU ((bU v).map (·.x)) [])).map (·.kind) = some 105 := by
  have hd : Good1 (numPc ((v / 256 % 4 : Nat) : Int)) (nV ((v / 256 % 4 : Nat) : Int)) 1 := pcNum_good (by unfold in64; omega)
  have hg : Goods (bU v) (rowU v) [1, 1] := .cons (goodA _) (.cons hd .nil)
  have hl : (insText nU ((bU v).map (·.x)) []).length ≤ 600 := by
    have h1 := (goodA (v % 6)).len
    have h2 := hd.len
    simp [insText, nU, bU, sepJoin] at h2 ⊢
    omega
  exact ⟨hl, by rw [ins_parse nU_ok hg.all (by simp [bU]) rfl hl]; rfl⟩
/-- base's loop: from the i-th raw number on. -/
def baseGo : Nat → List Int → List (List V) → List (List V) → List (List V) × List (List V)
  | _, [], rt, ru => (rt, ru)
  | i, c :: cs, rt, ru => if 14 ≤ i then (rt, ru) else if i % 2 = 0 then baseGo (i + 1) cs (rt ++ [rowT (pickN c 1099511627776)]) ru else baseGo (i + 1) cs rt (ru ++ [rowU (pickN c 1099511627776)])
def baseRows (raw : List Int) : List (List V) × List (List V) := baseGo 0 raw [row0] []
def baseDb (raw : List Int) : DB := bTab (baseRows raw).1 (baseRows raw).2
end Pl
end Go.Proofs.YtojdpjpldokjmaaGreatDoor
/- cond and num, plainly: conditions made of raw numbers, their tokens, trees, what they come to. -/
namespace Go.Proofs.YtojdpjpldokjmaaGreatDoor
namespace Pl
open Go.Deep

/-- A piece that is a single value n deep. -/
structure SgP (n : Nat) (p : Pc) : Prop where
  cl : Cl p.x p.ts
  sg : Sg n p.ts p.t
  ne : p.ts ≠ []
  wf : Wf p.t ∧ WfK p.t
theorem SgP.mono {n m : Nat} {p : Pc} (h : SgP n p) (hm : n ≤ m) : SgP m p := ⟨h.cl, h.sg.mono hm, h.ne, h.wf⟩
theorem SgP.ok {n : Nat} {p : Pc} (h : SgP n p) (hn : n ≤ 20) : p.ok := ⟨h.cl, h.sg.value.mono hn, h.ne⟩
def nA : List UInt8 := [97]
def nB : List UInt8 := [98]
def nC : List UInt8 := [99]
/- How long they are. -/
end Pl
end Go.Proofs.YtojdpjpldokjmaaGreatDoor
