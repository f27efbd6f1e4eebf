/- A SELECT that tells no * tells some value. -/
import Derived.Test.YtojdpjpldokjmaaGreatDoorJ08
namespace Go.Proofs.YtojdpjpldokjmaaGreatDoor
namespace Pl
theorem more_ne {p : PI} : ∀ {f : Nat} {acc : List It} {ts : List Tok} {l : List It} {r : List Tok}, more p f acc ts = some (l, r) → l ≠ []
  | 0, _, _, _, _, h => by simp [more] at h
  | f + 1, acc, ts, l, r, h => by
    rw [more] at h
    cases hp : p ts with
    | none => rw [hp] at h; cases h
    | some z =>
      obtain ⟨x, r'⟩ := z
      rw [hp] at h
      simp only at h
      split at h
      · exact more_ne h
      · cases h; simp
theorem told_vals {ts r : List Tok} {all : Bool} {items : List It} (h : pTold ts = some ((all, items), r)) : all = false → items ≠ [] := by
  unfold pTold at h
  split at h
  · cases h; intro e; cases e
  · cases hl : listed iValue ts with
    | none => rw [hl] at h; cases h
    | some z =>
      rw [hl] at h
      obtain ⟨l, r'⟩ := z
      cases h
      intro _
      exact more_ne hl
theorem from_vals {dis all : Bool} {items : List It} {ts r : List Tok} {s : St} (h : pFrom dis all items ts = some (s, r)) : s.all = all ∧ s.items = items := by
  unfold pFrom at h
  split at h
  · cases hs : pSources ts.tail with
    | none => rw [hs] at h; cases h
    | some z =>
      rw [hs] at h
      simp only [pFrom1] at h
      split at h
      · cases h
      · unfold pTail at h
        cases hw : pWhere z.2 with
        | none => rw [hw] at h; cases h
        | some y =>
          rw [hw] at h
          simp only [pTail1] at h
          cases hk : pKeys y.2 with
          | none => rw [hk] at h; cases h
          | some q =>
            rw [hk] at h
            simp only [pTail2, pLast] at h
            cases hlm : pLimit q.2 with
            | none => rw [hlm] at h; cases h
            | some m => rw [hlm] at h; cases h; exact ⟨rfl, rfl⟩
  · cases h
theorem statement_vals {ts r : List Tok} {s : St} (h : pStatement ts = some (s, r)) : s.kind = 115 → s.all = false → s.items ≠ [] := by
  intro hk
  unfold pStatement at h
  split at h
  · exfalso
    unfold pCreate at h
    repeat' split at h
    all_goals (first | cases h)
    all_goals (simp [st0] at hk)
  · split at h
    · exfalso
      unfold pInsert at h
      repeat' split at h
      all_goals (first | cases h)
      all_goals (simp [st0] at hk)
    · split at h
      · exfalso
        unfold pDelete at h
        repeat' split at h
        all_goals (first | cases h)
        all_goals (simp [st0] at hk)
      · split at h
        · exfalso
          unfold pUpdate at h
          repeat' split at h
          all_goals (first | cases h)
          all_goals (simp [st0] at hk)
        · split at h
          · unfold pQuery at h
            cases ht : pTold (pDis ts.tail) with
            | none => rw [ht] at h; cases h
            | some z =>
              obtain ⟨⟨all, items⟩, r'⟩ := z
              rw [ht] at h
              obtain ⟨h1, h2⟩ := from_vals h
              rw [h1, h2]
              exact told_vals ht
          · cases h
theorem parse_vals {l : List UInt8} {s : St} (h : pParse l = some s) : s.kind = 115 → s.all = false → s.items ≠ [] := by
  unfold pParse at h
  split at h
  · cases h
  · cases hz : pStatement (toks l) with
    | none => rw [hz] at h; cases h
    | some z =>
      obtain ⟨s1, r⟩ := z
      rw [hz] at h
      simp only [pEnd] at h
      split at h
      · simp at h; subst h
        exact statement_vals hz
      · cases h
end Pl
end Go.Proofs.YtojdpjpldokjmaaGreatDoor
