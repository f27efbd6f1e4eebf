/- How many rows a join has at most. -/
import Derived.Test.YtojdpjpldokjmaaGreatDoorJ10
namespace Go.Proofs.YtojdpjpldokjmaaGreatDoor.Pl
theorem beside_len {cols : List Col} {c : T} {r : List V} : ∀ {qs z : List (List V)}, beside cols c r qs = .ok z → z.length ≤ qs.length
  | [], z, h => by simp [beside] at h; subst h; simp
  | q :: qs, z, h => by
    unfold beside at h
    cases he : ev cols (r ++ q) c with
    | error e => rw [he] at h; cases h
    | ok v =>
      rw [he] at h
      simp only at h
      cases hs : beside cols c r qs with
      | error e => rw [hs] at h; cases h
      | ok y =>
        rw [hs] at h
        simp only at h
        injection h with h
        have h2 := beside_len hs
        split at h <;> (subst h; simp; omega)
theorem joinRows_len {cols : List Col} {c : T} {left : Bool} {n m : Nat} {qs : List (List V)} (hq : qs.length ≤ m) (hm : 1 ≤ m) : ∀ {rows z : List (List V)}, joinRows cols c left n qs rows = .ok z → z.length ≤ rows.length * m
  | [], z, h => by simp [joinRows] at h; subst h; simp
  | r :: rs, z, h => by
    unfold joinRows at h
    cases he : beside cols c r qs with
    | error e => rw [he] at h; cases h
    | ok y =>
      rw [he] at h
      simp only at h
      cases hs : joinRows cols c left n qs rs with
      | error e => rw [hs] at h; cases h
      | ok u =>
        rw [hs] at h
        simp only at h
        injection h with h
        have h2 := beside_len he
        have h4 := joinRows_len hq hm hs
        subst h
        rw [List.length_append, List.length_cons, Nat.add_mul]
        have : (if (left && y.isEmpty) = true then [r ++ List.replicate n nul] else y).length ≤ m := by
          split
          · simpa using hm
          · omega
        omega
theorem tabD_len {db : DB} {m : Nat} (h : ∀ t ∈ db, t.rows.length ≤ m) (i : Nat) : (tabD db i).rows.length ≤ m := by
  by_cases hi : i < db.length
  · exact h _ (tabD_mem hi)
  · unfold tabD
    rw [List.getD_eq_getElem?_getD, List.getElem?_eq_none (by omega)]
    simp
theorem joinsAll_len {db : DB} {m : Nat} (h : ∀ t ∈ db, t.rows.length ≤ m) (hm : 1 ≤ m) : ∀ {is : List Nat} {its : List It} {cols : List Col} {rows z : List (List V)}, joinsAll db cols rows is its = .ok z → z.length ≤ rows.length * m ^ its.length
  | [], its, cols, rows, z, hj => by
    have e : joinsAll db cols rows [] its = .ok rows := by cases its <;> rfl
    rw [e] at hj; cases hj
    exact Nat.le_mul_of_pos_right _ (Nat.pow_pos (by omega))
  | i :: is, [], cols, rows, z, hj => by
    have e : joinsAll db cols rows (i :: is) [] = .ok rows := rfl
    rw [e] at hj; cases hj; simp
  | i :: is, it :: its, cols, rows, z, hj => by
    unfold joinsAll at hj
    cases he : joinRows (cols ++ scope it.other (tabD db i)) (cond it.tree) it.mark (tabD db i).cols.length (tabD db i).rows rows with
    | error e => rw [he] at hj; cases hj
    | ok y =>
      rw [he] at hj
      simp only at hj
      have h1 := joinRows_len (tabD_len h i) hm he
      have h2 := joinsAll_len h hm hj
      rw [List.length_cons, Nat.pow_succ, Nat.mul_comm (m ^ its.length) m, ← Nat.mul_assoc]
      exact Nat.le_trans h2 (Nat.mul_le_mul_right _ h1)
end Go.Proofs.YtojdpjpldokjmaaGreatDoor.Pl
