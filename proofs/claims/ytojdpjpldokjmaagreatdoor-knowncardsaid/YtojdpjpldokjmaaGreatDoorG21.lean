/- SELECT in the shape of the code: plainly. -/
import Derived.Test.YtojdpjpldokjmaaGreatDoorG08
namespace Go.Proofs.YtojdpjpldokjmaaGreatDoor
namespace Pl
open Go.Deep

theorem beside_true (cols : List Col) (r : List V) : ∀ qs : List (List V), beside cols (cond .nil) r qs = .ok (qs.map (r ++ ·))
  | [] => rfl
  | q :: qs => by
    unfold beside
    rw [ev_true]
    simp only
    rw [beside_true cols r qs]
    simp
/-- The first source, beside one row without values. -/
theorem join_first (cols : List Col) (n : Nat) (qs : List (List V)) : joinRows cols (cond .nil) false n qs [[]] = .ok qs := by
  unfold joinRows
  rw [beside_true]
  simp [joinRows]
theorem cond_id {t : T} (h : okT t) : cond t = t := by
  cases t with
  | nil => exact absurd h.1 id
  | node => rfl
/-- Sources joined in turn, from one row without values on. -/
def joinsAll (db : DB) : List Col → List (List V) → List Nat → List It → Out (List (List V))
  | cols, rows, i :: is, it :: its => match joinRows (cols ++ scope it.other (tabD db i)) (cond it.tree) it.mark (tabD db i).cols.length (tabD db i).rows rows with
    | .error e => .error e
    | .ok z => joinsAll db (cols ++ scope it.other (tabD db i)) z is its
  | _, rows, _, _ => .ok rows
def onsAll (db : DB) : List Col → List Nat → List It → Option Nat
  | cols, i :: is, it :: its => match tcAs (cols ++ scope it.other (tabD db i)) (cond it.tree) 3 with
    | some e => some e
    | none => onsAll db (cols ++ scope it.other (tabD db i)) is its
  | _, _, _ => none
theorem joinsAll_go (db : DB) : ∀ (cols : List Col) (rows : List (List V)) (is : List Nat) (its : List It), (∀ i ∈ its, okT i.tree) → joinsAll db cols rows is its = joinsGo db cols rows is its
  | cols, rows, [], its, _ => by cases its <;> rfl
  | cols, rows, i :: is, [], _ => rfl
  | cols, rows, i :: is, it :: its, h => by
    unfold joinsAll joinsGo
    rw [cond_id (h it (by simp))]
    cases joinRows (cols ++ scope it.other (tabD db i)) it.tree it.mark (tabD db i).cols.length (tabD db i).rows rows with
    | error e => rfl
    | ok z => exact joinsAll_go db _ _ _ _ (fun j hj => h j (by simp [hj]))
theorem onsAll_go (db : DB) : ∀ (cols : List Col) (is : List Nat) (its : List It), (∀ i ∈ its, okT i.tree) → onsAll db cols is its = onsGo db cols is its
  | cols, [], its, _ => by cases its <;> rfl
  | cols, i :: is, [], _ => rfl
  | cols, i :: is, it :: its, h => by
    unfold onsAll onsGo
    rw [cond_id (h it (by simp))]
    cases tcAs (cols ++ scope it.other (tabD db i)) it.tree 3 with
    | some e => rfl
    | none => exact onsAll_go db _ _ _ (fun j hj => h j (by simp [hj]))
theorem srcsGo_len {db : DB} : ∀ {its : List It} {called : List (List UInt8)} {is : List Nat}, srcsGo db called its = .ok is → is.length = its.length ∧ ∀ i ∈ is, i < db.length
  | [], _, is, h => by simp [srcsGo] at h; subst h; simp
  | it :: its, called, is, h => by
    unfold srcsGo at h
    cases ht : tabAt db it.name with
    | none => rw [ht] at h; cases h
    | some i =>
      rw [ht] at h
      simp only at h
      split at h
      · cases h
      · cases hs : srcsGo db (called ++ [it.other]) its with
        | error e => rw [hs] at h; cases h
        | ok js =>
          rw [hs] at h
          simp at h; subst h
          obtain ⟨a, b⟩ := srcsGo_len hs
          refine ⟨by simp [a], fun k hk => ?_⟩
          rcases List.mem_cons.1 hk with rfl | hk
          · exact tabAt_lt ht
          · exact b k hk
/-- The code's SELECT. -/
def choose (db : DB) (s : St) : Out (List (List V)) := match srcsGo db [] s.sources with
  | .error e => .error e
  | .ok is => match onsAll db [] is s.sources with
    | some e => .error e
    | none => match tcAll (scopes db is s.sources) (valuesOf s (scopes db is s.sources)) with
      | some e => .error e
      | none => match tcAs (scopes db is s.sources) (cond s.whr) 3 with
        | some e => .error e
        | none => match tcAll (scopes db is s.sources) (s.keys.map (·.tree)) with
          | some e => .error e
          | none => match joinsAll db [] [[]] is s.sources with
            | .error e => .error e
            | .ok rows => chosen (scopes db is s.sources) s rows
theorem choose_do {db : DB} {s : St} (hs : okSt s) (hk : s.kind = 115) : doSelect db s = match choose db s with
    | .error e => (db, no e)
    | .ok out => (db, ⟨out, 0, 0⟩) := by
  obtain ⟨a, m, hsrc, ha, hmark, _, hm⟩ := hs.sources hk
  unfold doSelect choose
  rw [hsrc]
  cases h0 : srcsGo db [] (a :: m) with
  | error e => rfl
  | ok is =>
    obtain ⟨hl, _⟩ := srcsGo_len h0
    cases is with
    | nil => simp at hl
    | cons i is =>
      have e1 : scopes db ((i :: is).take 1) ((a :: m).take 1) = scope a.other (tabD db i) := by simp [scopes]
      have e2 : onsAll db [] (i :: is) (a :: m) = onsGo db (scope a.other (tabD db i)) is m := by
        unfold onsAll
        rw [ha, tc_true]
        simp only [List.nil_append]
        exact onsAll_go db _ _ _ hm
      have e3 : joinsAll db [] [[]] (i :: is) (a :: m) = joinsGo db (scope a.other (tabD db i)) (tabD db i).rows is m := by
        unfold joinsAll
        rw [ha, hmark, join_first]
        simp only [List.nil_append]
        exact joinsAll_go db _ _ _ _ hm
      simp only [e1, e2, e3, List.drop_succ_cons, List.drop_zero, List.headD_cons]
      cases onsGo db (scope a.other (tabD db i)) is m with
      | some e => rfl
      | none =>
        simp only
        cases tcAll (scopes db (i :: is) (a :: m)) (valuesOf s (scopes db (i :: is) (a :: m))) with
        | some e => rfl
        | none =>
          simp only
          cases tcAs (scopes db (i :: is) (a :: m)) (cond s.whr) 3 with
          | some e => rfl
          | none =>
            simp only
            cases tcAll (scopes db (i :: is) (a :: m)) (s.keys.map (·.tree)) with
            | some e => rfl
            | none =>
              simp only
              cases joinsGo db (scope a.other (tabD db i)) (tabD db i).rows is m with
              | error e => rfl
              | ok rows =>
                simp only
                cases chosen (scopes db (i :: is) (a :: m)) s rows with
                | error e => rfl
                | ok out => rfl

/-- Rows beside one row. -/
theorem beside_ok {a b : List Col} {c : T} {r : List V} (hr : RowFor a r) : ∀ {qs z : List (List V)}, (∀ q ∈ qs, RowFor b q) → beside (a ++ b) c r qs = .ok z → (∀ x ∈ z, RowFor (a ++ b) x) ∧ z.length ≤ qs.length
  | [], z, _, h => by simp [beside] at h; subst h; simp
  | q :: qs, z, hq, h => by
    unfold beside at h
    cases he : ev (a ++ b) (r ++ q) c with
    | error e => rw [he] at h; cases h
    | ok v =>
      rw [he] at h
      simp only at h
      cases hs : beside (a ++ b) c r qs with
      | error e => rw [hs] at h; cases h
      | ok y =>
        rw [hs] at h
        simp only at h
        injection h with h
        obtain ⟨h1, h2⟩ := beside_ok hr (fun q h => hq q (by simp [h])) hs
        split at h
        · subst h
          refine ⟨fun x hx => ?_, by simp; omega⟩
          rcases List.mem_cons.1 hx with rfl | hx
          · exact hr.append (hq q (by simp))
          · exact h1 x hx
        · subst h
          exact ⟨h1, by simp; omega⟩
theorem joinRows_ok {a b : List Col} {c : T} {left : Bool} {qs : List (List V)} (hq : ∀ q ∈ qs, RowFor b q) (h25 : qs.length ≤ 25) : ∀ {rows z : List (List V)}, (∀ r ∈ rows, RowFor a r) → joinRows (a ++ b) c left b.length qs rows = .ok z → (∀ x ∈ z, RowFor (a ++ b) x) ∧ z.length ≤ rows.length * 25
  | [], z, _, h => by simp [joinRows] at h; subst h; simp
  | r :: rs, z, hr, h => by
    unfold joinRows at h
    cases he : beside (a ++ b) c r qs with
    | error e => rw [he] at h; cases h
    | ok y =>
      rw [he] at h
      simp only at h
      cases hs : joinRows (a ++ b) c left b.length qs rs with
      | error e => rw [hs] at h; cases h
      | ok u =>
        rw [hs] at h
        simp only at h
        injection h with h
        obtain ⟨h1, h2⟩ := beside_ok (hr r (by simp)) hq he
        obtain ⟨h3, h4⟩ := joinRows_ok hq h25 (fun r h => hr r (by simp [h])) hs
        subst h
        constructor
        · intro x hx
          rcases List.mem_append.1 hx with hx | hx
          · split at hx
            · simp at hx; subst hx
              exact (hr r (by simp)).append (RowFor.nuls b)
            · exact h1 x hx
          · exact h3 x hx
        · rw [List.length_append, List.length_cons]
          have : (if (left && y.isEmpty) = true then [r ++ List.replicate b.length nul] else y).length ≤ 25 := by
            split
            · simp
            · omega
          omega
theorem joinsAll_ok {db : DB} (h : okDB db) : ∀ {is : List Nat} {its : List It} {cols : List Col} {rows z : List (List V)}, is.length = its.length → (∀ i ∈ is, i < db.length) → (∀ r ∈ rows, RowFor cols r) → joinsAll db cols rows is its = .ok z → (∀ x ∈ z, RowFor (cols ++ scopes db is its) x) ∧ z.length ≤ rows.length * 25 ^ is.length
  | [], its, cols, rows, z, hl, _, hr, hz => by
    cases its with
    | nil => simp [joinsAll] at hz; subst hz; simpa [scopes] using hr
    | cons => simp at hl
  | i :: is, [], cols, rows, z, hl, _, hr, hz => by simp at hl
  | i :: is, it :: its, cols, rows, z, hl, hi, hr, hz => by
    unfold joinsAll at hz
    have htab := h.2 _ (tabD_mem (hi i (by simp)))
    cases he : joinRows (cols ++ scope it.other (tabD db i)) (cond it.tree) it.mark (tabD db i).cols.length (tabD db i).rows rows with
    | error e => rw [he] at hz; cases hz
    | ok y =>
      rw [he] at hz
      rw [← scope_len it.other] at he
      obtain ⟨h1, h2⟩ := joinRows_ok (fun q hq => (htab.rows q hq).src) htab.nrows hr he
      obtain ⟨h3, h4⟩ := joinsAll_ok h (by simpa using hl) (fun j hj => hi j (by simp [hj])) h1 hz
      refine ⟨fun x hx => by have := h3 x hx; simpa [scopes] using this, ?_⟩
      rw [List.length_cons, Nat.pow_succ]
      calc z.length ≤ y.length * 25 ^ is.length := h4
        _ ≤ rows.length * 25 * 25 ^ is.length := Nat.mul_le_mul_right _ h2
        _ = rows.length * (25 ^ is.length * 25) := by rw [Nat.mul_assoc, Nat.mul_comm 25]
theorem evRows_ok {cols : List Col} {ts : List T} (ht : ∀ t ∈ ts, okT t) : ∀ {rows out : List (List V)}, (∀ r ∈ rows, RowFor cols r) → evRows cols ts rows = .ok out → out.length = rows.length ∧ ∀ v ∈ out, v.length = ts.length ∧ okRow v
  | [], out, _, h => by simp [evRows] at h; subst h; simp
  | r :: rs, out, hr, h => by
    unfold evRows at h
    cases he : evAll cols r ts with
    | error e => rw [he] at h; cases h
    | ok v =>
      rw [he] at h
      simp only at h
      cases hs : evRows cols ts rs with
      | error e => rw [hs] at h; cases h
      | ok us =>
        rw [hs] at h
        simp at h; subst h
        obtain ⟨a, b⟩ := evRows_ok ht (fun r h => hr r (by simp [h])) hs
        refine ⟨by simp [a], fun u hu => ?_⟩
        rcases List.mem_cons.1 hu with rfl | hu
        · exact evAll_ok (hr r (by simp)) ht he
        · exact b u hu
theorem evRows_types {cols : List Col} {ts : List T} (ht : ∀ t ∈ ts, okT t) (hty : ∀ t ∈ ts, ∃ ty, tc cols t = .ok ty) : ∀ {rows out : List (List V)}, (∀ r ∈ rows, RowFor cols r) → evRows cols ts rows = .ok out → ∀ v ∈ out, ranksOf (tysOf cols ts) v
  | [], out, _, h => by simp [evRows] at h; subst h; simp
  | r :: rs, out, hr, h => by
    unfold evRows at h
    cases he : evAll cols r ts with
    | error e => rw [he] at h; cases h
    | ok v =>
      rw [he] at h
      simp only at h
      cases hs : evRows cols ts rs with
      | error e => rw [hs] at h; cases h
      | ok us =>
        rw [hs] at h
        simp at h; subst h
        intro u hu
        rcases List.mem_cons.1 hu with rfl | hu
        · exact evAll_types (hr r (by simp)) ht hty he
        · exact evRows_types ht hty (fun r h => hr r (by simp [h])) hs u hu
/-- An element put into what is sorted, from behind. -/
theorem ins_done {α : Type} {le : α → α → Bool} (h : Ord le) {p q : List α} {x : α} (hs : (p ++ q).Pairwise (fun a b => le a b = true)) (hp : p = [] ∨ ∃ y p', p = p' ++ [y] ∧ le y x = true) (hq : ∀ y ∈ q, le y x = false) : mrg le (p ++ q) [x] = p ++ x :: q := by
  refine mrg_last ?_ hq
  rcases hp with rfl | ⟨y, p', rfl, hy⟩
  · simp
  · intro z hz
    rcases List.mem_append.1 hz with hz | hz
    · rw [List.append_assoc, List.pairwise_append] at hs
      exact h.trans _ _ _ (hs.2.2 z hz y (by simp)) hy
    · simp at hz; subst hz; exact hy
end Pl
end Go.Proofs.YtojdpjpldokjmaaGreatDoor
