/- A statement that was read is well made: plainly. -/
import Derived.Test.YtojdpjpldokjmaaGreatDoorJ07
namespace Go.Proofs.YtojdpjpldokjmaaGreatDoor
namespace Pl
open Go.Deep

def okT (t : T) : Prop := Wf t ∧ WfK t ∧ sz t ≤ 600
def okW (t : T) : Prop := t = .nil ∨ okT t
structure okSt (s : St) : Prop where
  kind : s.kind = 99 ∨ s.kind = 105 ∨ s.kind = 100 ∨ s.kind = 117 ∨ s.kind = 115
  len : s.items.length ≤ 600
  tname : s.table.length ≤ 10
  create : s.kind = 99 → s.items.length ≤ 5 ∧ ∀ i ∈ s.items, (i.type = 1 ∨ i.type = 2 ∨ i.type = 3) ∧ i.name.length ≤ 10
  items : s.kind ≠ 99 → ∀ i ∈ s.items, okT i.tree
  whr : okW s.whr
  klen : s.keys.length ≤ 600
  keys : ∀ i ∈ s.keys, okT i.tree
  sources : s.kind = 115 → ∃ a r, s.sources = a :: r ∧ a.tree = .nil ∧ a.mark = false ∧ r.length ≤ 2 ∧ ∀ i ∈ r, okT i.tree
  limit : s.limit = -1 ∨ (0 ≤ s.limit ∧ s.limit ≤ 9223372036854775807)
  offset : 0 ≤ s.offset ∧ s.offset ≤ 9223372036854775807
  some_ : s.kind = 105 ∨ s.kind = 99 → s.items ≠ []

/-- A reader of items: what is read is so; less is left. -/
def GoodI (q : It → Prop) (p : PI) : Prop := ∀ ts x r, TokOk ts → ts.length ≤ 600 → p ts = some (x, r) → q x ∧ r.length < ts.length ∧ TokOk r
theorem good_lt {p : P} (h : Good p) {ts r : List Tok} {x : T} (ht : TokOk ts) (hl : ts.length ≤ 600) (hp : p ts = some (x, r)) : okT x ∧ r.length < ts.length ∧ TokOk r := by
  obtain ⟨h1, h2, h3, h4⟩ := h ts x r ht hp
  have : 1 ≤ sz x := by
    cases x with
    | nil => exact absurd h1 id
    | node => simp [sz]
  exact ⟨⟨h1, h2, by omega⟩, by omega, h4⟩
theorem more_good {q : It → Prop} {p : PI} (hp : GoodI q p) : ∀ (f : Nat) (acc : List It) (ts : List Tok) (l : List It) (r : List Tok), TokOk ts → ts.length ≤ 600 → (∀ i ∈ acc, q i) → more p f acc ts = some (l, r) → (∀ i ∈ l, q i) ∧ l.length + r.length ≤ acc.length + ts.length ∧ acc.length < l.length ∧ r.length ≤ ts.length ∧ TokOk r
  | 0, _, _, _, _, _, _, _, h => by simp [more] at h
  | f + 1, acc, ts, l, r, ht, hl, ha, h => by
    unfold more at h
    cases hz : p ts with
    | none => rw [hz] at h; cases h
    | some z =>
      obtain ⟨x, r1⟩ := z
      rw [hz] at h
      obtain ⟨h1, h2, h3⟩ := hp ts x r1 ht hl hz
      have ha' : ∀ i ∈ acc ++ [x], q i := by
        intro i hi
        rcases List.mem_append.1 hi with hi | hi
        · exact ha i hi
        · simp at hi; subst hi; exact h1
      simp only at h
      split at h
      · have t1 := tail_le r1
        obtain ⟨a1, a2, a3, a4, a5⟩ := more_good hp f _ _ _ _ h3.tail (by omega) ha' h
        simp only [List.length_append, List.length_singleton] at a2 a3
        exact ⟨a1, by omega, by omega, by omega, a5⟩
      · simp at h
        obtain ⟨rfl, rfl⟩ := h
        exact ⟨ha', by simp; omega, by simp, by omega, h3⟩
theorem listed_good {q : It → Prop} {p : PI} (hp : GoodI q p) {ts : List Tok} {l : List It} {r : List Tok} (ht : TokOk ts) (hl : ts.length ≤ 600) (h : listed p ts = some (l, r)) : (∀ i ∈ l, q i) ∧ l.length + r.length ≤ ts.length ∧ l ≠ [] ∧ r.length ≤ ts.length ∧ TokOk r := by
  obtain ⟨a1, a2, a3, a4, a5⟩ := more_good hp _ [] ts l r ht hl (by simp) h
  simp at a2 a3
  exact ⟨a1, a2, by intro e; subst e; simp at a3, a4, a5⟩
theorem iValue_good : GoodI (fun i => okT i.tree) iValue := by
  intro ts x r ht hl h
  unfold iValue at h
  split at h
  · cases h
  · rename_i y r1 hz
    simp at h; obtain ⟨rfl, rfl⟩ := h
    exact good_lt val_good ht hl hz
theorem iField_good : GoodI (fun i => (i.type = 1 ∨ i.type = 2 ∨ i.type = 3) ∧ i.name.length ≤ 10) iField := by
  intro ts x r ht hl h
  unfold iField at h
  split at h
  · rename_i h1
    split at h
    · cases h
    · rename_i t htt
      simp at h; obtain ⟨rfl, rfl⟩ := h
      refine ⟨⟨?_, (ht.hd.2.2 h1).1⟩, ?_, ht.tail.tail⟩
      · unfold typeOf at htt
        simp only
        repeat' split at htt
        all_goals first
          | (cases htt; done)
          | (simp at htt; omega)
      · have := tail_lt h1 (by decide); have := tail_le ts.tail; omega
  · cases h
theorem iSet_good : GoodI (fun i => okT i.tree) iSet := by
  intro ts x r ht hl h
  have t1 := tail_le ts
  have t2 := tail_le ts.tail
  unfold iSet at h
  split at h
  · split at h
    · split at h
      · cases h
      · rename_i y r1 hz
        simp at h; obtain ⟨rfl, rfl⟩ := h
        obtain ⟨a, b, c⟩ := good_lt val_good ht.tail.tail (by omega) hz
        exact ⟨a, by omega, c⟩
    · cases h
  · cases h
theorem iKey_good : GoodI (fun i => okT i.tree) iKey := by
  intro ts x r ht hl h
  unfold iKey at h
  split at h
  · cases h
  · rename_i y r1 hz
    obtain ⟨a, b, c⟩ := good_lt val_good ht hl hz
    have t1 := tail_le r1
    split at h
    · simp at h; obtain ⟨rfl, rfl⟩ := h; exact ⟨a, by omega, c.tail⟩
    · simp at h; obtain ⟨rfl, rfl⟩ := h; exact ⟨a, b, c⟩
theorem iSource_good : GoodI (fun i => i.tree = .nil ∧ i.mark = false) iSource := by
  intro ts x r ht hl h
  have t2 := tail_le ts.tail
  have t3 := tail_le ts.tail.tail
  unfold iSource at h
  split at h
  · rename_i h1
    have t1 := tail_lt h1 (by decide)
    repeat' (split at h)
    all_goals first
      | (cases h; done)
      | (simp at h; obtain ⟨rfl, rfl⟩ := h; exact ⟨⟨rfl, rfl⟩, by omega, by first | exact ht.tail | exact ht.tail.tail.tail⟩)
  · cases h
theorem iJoin_good (left : Bool) : GoodI (fun i => okT i.tree) (iJoin left) := by
  intro ts x r ht hl h
  unfold iJoin at h
  split at h
  · cases h
  · rename_i it r1 hs
    obtain ⟨_, h2, h3⟩ := iSource_good ts it r1 ht hl hs
    have t1 := tail_le r1
    split at h
    · split at h
      · cases h
      · rename_i y r2 hv
        obtain ⟨a, b, c⟩ := good_lt val_good h3.tail (by omega) hv
        simp at h; obtain ⟨rfl, rfl⟩ := h
        exact ⟨a, by omega, c⟩
    · cases h
theorem joins_good : ∀ (f : Nat) (acc : List It) (ts : List Tok) (l : List It) (r : List Tok), TokOk ts → ts.length ≤ 600 → joins f acc ts = some (l, r) → (∃ m, l = acc ++ m ∧ ∀ i ∈ m, okT i.tree) ∧ r.length ≤ ts.length ∧ TokOk r
  | 0, _, _, _, _, _, _, h => by simp [joins] at h
  | f + 1, acc, ts, l, r, ht, hl, h => by
    have t1 := tail_le ts
    have t2 := tail_le ts.tail
    have key : ∀ (left : Bool) (u : List Tok), TokOk u → u.length ≤ ts.length → (match iJoin left u with | none => none | some (it, r) => joins f (acc ++ [it]) r) = some (l, r) → (∃ m, l = acc ++ m ∧ ∀ i ∈ m, okT i.tree) ∧ r.length ≤ ts.length ∧ TokOk r := by
      intro left u hu hul h
      cases hz : iJoin left u with
      | none => rw [hz] at h; cases h
      | some z =>
        obtain ⟨it, r1⟩ := z
        rw [hz] at h
        obtain ⟨a, b, c⟩ := iJoin_good left u it r1 hu (by omega) hz
        obtain ⟨⟨m, rfl, hm⟩, h2, h3⟩ := joins_good f _ _ _ _ c (by omega) h
        refine ⟨⟨it :: m, by simp, ?_⟩, by omega, h3⟩
        intro i hi
        rcases List.mem_cons.1 hi with rfl | hi
        · exact a
        · exact hm i hi
    unfold joins at h
    split at h
    · split at h
      · exact key true _ ht.tail.tail (by omega) h
      · cases h
    · split at h
      · exact key false _ ht.tail (by omega) h
      · simp at h; obtain ⟨rfl, rfl⟩ := h
        exact ⟨⟨[], by simp, by simp⟩, Nat.le_refl _, ht⟩
theorem sources_good {ts : List Tok} {l : List It} {r : List Tok} (ht : TokOk ts) (hl : ts.length ≤ 600) (h : pSources ts = some (l, r)) : (∃ a m, l = a :: m ∧ a.tree = .nil ∧ a.mark = false ∧ ∀ i ∈ m, okT i.tree) ∧ r.length ≤ ts.length ∧ TokOk r := by
  unfold pSources at h
  split at h
  · cases h
  · rename_i it r1 hs
    obtain ⟨h1, h2, h3⟩ := iSource_good ts it r1 ht hl hs
    obtain ⟨⟨m, rfl, hm⟩, h4, h5⟩ := joins_good _ _ _ _ _ h3 (by omega) h
    exact ⟨⟨it, m, by simp, h1.1, h1.2, hm⟩, by omega, h5⟩
theorem where_good {ts : List Tok} {x : T} {r : List Tok} (ht : TokOk ts) (hl : ts.length ≤ 600) (h : pWhere ts = some (x, r)) : okW x ∧ r.length ≤ ts.length ∧ TokOk r := by
  have t1 := tail_le ts
  unfold pWhere at h
  split at h
  · obtain ⟨a, b, c⟩ := good_lt val_good ht.tail (by omega) h
    exact ⟨.inr a, by omega, c⟩
  · simp at h; obtain ⟨rfl, rfl⟩ := h; exact ⟨.inl rfl, Nat.le_refl _, ht⟩
theorem limit_good {ts : List Tok} {z : Int × Int} {r : List Tok} (ht : TokOk ts) (h : pLimit ts = some (z, r)) : (z.1 = -1 ∨ (0 ≤ z.1 ∧ z.1 ≤ 9223372036854775807)) ∧ (0 ≤ z.2 ∧ z.2 ≤ 9223372036854775807) := by
  unfold pLimit at h
  split at h
  · split at h
    · rename_i h2
      have a := ht.tail.hd.1 h2
      split at h
      · split at h
        · rename_i h3
          have b := ht.tail.tail.tail.hd.1 h3
          simp at h; obtain ⟨rfl, rfl⟩ := h
          exact ⟨.inr a, b⟩
        · cases h
      · simp at h; obtain ⟨rfl, rfl⟩ := h
        exact ⟨.inr a, by simp⟩
    · cases h
  · simp at h; obtain ⟨rfl, rfl⟩ := h
    exact ⟨.inl rfl, by simp⟩
theorem keys_good {ts : List Tok} {l : List It} {r : List Tok} (ht : TokOk ts) (hl : ts.length ≤ 600) (h : pKeys ts = some (l, r)) : (∀ i ∈ l, okT i.tree) ∧ l.length ≤ 600 ∧ TokOk r := by
  have t1 := tail_le ts
  have t2 := tail_le ts.tail
  unfold pKeys at h
  split at h
  · split at h
    · obtain ⟨a, b, c, d, e⟩ := listed_good iKey_good ht.tail.tail (by omega) h
      exact ⟨a, by omega, e⟩
    · cases h
  · simp at h; obtain ⟨rfl, rfl⟩ := h
    exact ⟨by simp, by simp, ht⟩
theorem query_good {ts : List Tok} {s : St} {r : List Tok} (ht : TokOk ts) (hl : ts.length ≤ 600) (h : pQuery ts = some (s, r)) : okSt s := by
  have hdis : TokOk (pDis ts) ∧ (pDis ts).length ≤ 600 := by
    have t1 := tail_le ts
    unfold pDis
    split
    · exact ⟨ht.tail, by omega⟩
    · exact ⟨ht, hl⟩
  cases hz : pTold (pDis ts) with
  | none => rw [query_none hz] at h; cases h
  | some z =>
    obtain ⟨⟨all, items⟩, r1⟩ := z
    rw [query_some hz] at h
    have hi : (∀ i ∈ items, okT i.tree) ∧ items.length ≤ 600 ∧ r1.length ≤ 600 ∧ TokOk r1 := by
      obtain ⟨hd1, hd2⟩ := hdis
      unfold pTold at hz
      split at hz
      · simp at hz; obtain ⟨⟨_, rfl⟩, rfl⟩ := hz
        have := tail_le (pDis ts)
        exact ⟨by simp, by simp, by omega, hd1.tail⟩
      · split at hz
        · cases hz
        · rename_i l r2 hl2
          simp at hz; obtain ⟨⟨_, rfl⟩, rfl⟩ := hz
          obtain ⟨a, b, c, d, e⟩ := listed_good iValue_good hd1 hd2 hl2
          exact ⟨a, by omega, by omega, e⟩
    obtain ⟨hi1, hi2, hi3, hi4⟩ := hi
    unfold pFrom at h
    split at h
    · have t1 := tail_le r1
      cases hs : pSources r1.tail with
      | none => rw [hs] at h; cases h
      | some y =>
        obtain ⟨srcs, r3⟩ := y
        obtain ⟨⟨a, m, rfl, ha1, ha2, hm⟩, hr3, ht3⟩ := sources_good hi4.tail (by omega) hs
        rw [hs] at h
        simp only [pFrom1] at h
        split at h
        · cases h
        · rename_i hlen
          unfold pTail at h
          cases hw : pWhere r3 with
          | none => rw [hw] at h; cases h
          | some y2 =>
            obtain ⟨wh, r4⟩ := y2
            obtain ⟨hwo, hr4, ht4⟩ := where_good ht3 (by omega) hw
            rw [hw] at h
            simp only [pTail1] at h
            cases hk : pKeys r4 with
            | none => rw [hk] at h; cases h
            | some y3 =>
              obtain ⟨keys, r5⟩ := y3
              obtain ⟨hk1, hk2, ht5⟩ := keys_good ht4 (by omega) hk
              rw [hk] at h
              simp only [pTail2] at h
              unfold pLast at h
              cases hlm : pLimit r5 with
              | none => rw [hlm] at h; cases h
              | some y4 =>
                obtain ⟨z4, r6⟩ := y4
                obtain ⟨g1, g2⟩ := limit_good ht5 hlm
                rw [hlm] at h
                simp at h
                obtain ⟨rfl, rfl⟩ := h
                refine ⟨by simp, hi2, by simp, by simp, fun _ => hi1, hwo, hk2, hk1, fun _ => ⟨a, m, rfl, ha1, ha2, ?_, hm⟩, g1, g2, by simp⟩
                simp at hlen; omega
    · cases h
theorem st0_good {k : Int} {nm : List UInt8} {its : List It} {wh : T} (hk : k = 99 ∨ k = 105 ∨ k = 100 ∨ k = 117) (h1 : its.length ≤ 600) (h2 : nm.length ≤ 10) (h3 : k = 99 → its.length ≤ 5 ∧ ∀ i ∈ its, (i.type = 1 ∨ i.type = 2 ∨ i.type = 3) ∧ i.name.length ≤ 10) (h4 : k ≠ 99 → ∀ i ∈ its, okT i.tree) (h5 : okW wh) (h6 : k = 105 ∨ k = 99 → its ≠ []) : okSt (st0 k nm its wh) := by
  unfold st0
  refine ⟨by rcases hk with h | h | h | h <;> simp [h], h1, h2, h3, h4, h5, by simp, by simp, fun h => ?_, by simp, by simp, h6⟩
  simp only at h
  omega
theorem inOpen_good {q : It → Prop} {p : PI} (hp : GoodI q p) {ts : List Tok} {l : List It} {r : List Tok} (ht : TokOk ts) (hl : ts.length ≤ 600) (h : inOpen p ts = some (l, r)) : (∀ i ∈ l, q i) ∧ l.length ≤ 600 ∧ l ≠ [] := by
  have t1 := tail_le ts
  unfold inOpen at h
  split at h
  · split at h
    · cases h
    · rename_i l1 r1 hz
      obtain ⟨a, b, c, d, e⟩ := listed_good hp ht.tail (by omega) hz
      split at h
      · simp at h; obtain ⟨rfl, rfl⟩ := h
        exact ⟨a, by omega, c⟩
      · cases h
  · cases h
theorem statement_good {ts : List Tok} {s : St} {r : List Tok} (ht : TokOk ts) (hl : ts.length ≤ 600) (h : pStatement ts = some (s, r)) : okSt s := by
  have t1 := tail_le ts
  have t2 := tail_le ts.tail
  have t3 := tail_le ts.tail.tail
  have t4 := tail_le ts.tail.tail.tail
  unfold pStatement at h
  split at h
  · unfold pCreate at h
    split at h
    · split at h
      · rename_i h1
        split at h
        · cases h
        · rename_i l r1 hz
          obtain ⟨a, b, c⟩ := inOpen_good iField_good ht.tail.tail.tail (by omega) hz
          split at h
          · cases h
          · rename_i h5
            simp at h; obtain ⟨rfl, rfl⟩ := h
            exact st0_good (.inl rfl) b (ht.tail.tail.hd.2.2 h1).1 (fun _ => ⟨by omega, a⟩) (fun h => absurd rfl h) (.inl rfl) (fun _ => c)
      · cases h
    · cases h
  split at h
  · unfold pInsert at h
    split at h
    · split at h
      · rename_i h1
        split at h
        · split at h
          · cases h
          · rename_i l r1 hz
            have t5 := tail_le ts.tail.tail.tail.tail
            obtain ⟨a, b, c⟩ := inOpen_good iValue_good ht.tail.tail.tail.tail (by omega) hz
            simp at h; obtain ⟨rfl, rfl⟩ := h
            exact st0_good (.inr (.inl rfl)) b (ht.tail.tail.hd.2.2 h1).1 (fun h => by simp at h) (fun _ => a) (.inl rfl) (fun _ => c)
        · cases h
      · cases h
    · cases h
  split at h
  · unfold pDelete at h
    split at h
    · split at h
      · rename_i h1
        split at h
        · cases h
        · rename_i wh r1 hz
          obtain ⟨a, b, c⟩ := where_good ht.tail.tail.tail (by omega) hz
          simp at h; obtain ⟨rfl, rfl⟩ := h
          exact st0_good (.inr (.inr (.inl rfl))) (by simp) (ht.tail.tail.hd.2.2 h1).1 (fun h => by simp at h) (fun _ => by simp) a (fun h => by omega)
      · cases h
    · cases h
  split at h
  · unfold pUpdate at h
    split at h
    · rename_i h1
      split at h
      · split at h
        · cases h
        · rename_i l r1 hz
          obtain ⟨a, b, c, d, e⟩ := listed_good iSet_good ht.tail.tail.tail (by omega) hz
          split at h
          · cases h
          · rename_i wh r2 hw
            obtain ⟨a2, b2, c2⟩ := where_good e (by omega) hw
            simp at h; obtain ⟨rfl, rfl⟩ := h
            exact st0_good (.inr (.inr (.inr rfl))) (by omega) (ht.tail.hd.2.2 h1).1 (fun h => by simp at h) (fun _ => a) a2 (fun h => by omega)
      · cases h
    · cases h
  split at h
  · exact query_good ht.tail (by omega) h
  · cases h
/-- A STATEMENT THAT WAS READ IS WELL MADE. -/
theorem parse_ok {l : List UInt8} {s : St} (h : pParse l = some s) : okSt s := by
  unfold pParse at h
  split at h
  · cases h
  · rename_i hl
    have h1 := toks_ok _ l (Nat.lt_succ_self _)
    have h2 := toks_length _ l (Nat.lt_succ_self _)
    cases hz : pStatement (toks l) with
    | none => rw [hz] at h; cases h
    | some z =>
      obtain ⟨s1, r⟩ := z
      rw [hz] at h
      simp only [pEnd] at h
      split at h
      · simp at h; subst h
        exact statement_good h1 (by omega) hz
      · cases h
end Pl
end Go.Proofs.YtojdpjpldokjmaaGreatDoor
/- Stable sorting: plainly. Nothing of the program in it. -/
namespace Go.Proofs.YtojdpjpldokjmaaGreatDoor
namespace Pl

/-- An order in which every two stand, and that goes on. -/
structure Ord {α : Type} (le : α → α → Bool) : Prop where
  total : ∀ a b, le a b = true ∨ le b a = true
  trans : ∀ a b c, le a b = true → le b c = true → le a c = true
theorem Ord.refl {α : Type} {le : α → α → Bool} (h : Ord le) (a : α) : le a a = true := (h.total a a).elim id id
theorem Ord.not {α : Type} {le : α → α → Bool} (h : Ord le) {a b : α} (hn : le a b = false) : le b a = true := (h.total a b).elim (fun e => by rw [hn] at e; cases e) id
/-- Two lists, each in order, as one: where two are the same the first list's comes first. -/
def mrg {α : Type} (le : α → α → Bool) : List α → List α → List α
  | [], ys => ys
  | x :: xs, ys => go x xs (mrg le xs) ys
where
  go (x : α) (xs : List α) (rest : List α → List α) : List α → List α
    | [] => x :: xs
    | y :: ys => if le x y = true then x :: rest (y :: ys) else y :: go x xs rest ys
theorem mrg_nil {α : Type} (le : α → α → Bool) (ys : List α) : mrg le [] ys = ys := by rw [mrg]
theorem mrg_nil' {α : Type} (le : α → α → Bool) (xs : List α) : mrg le xs [] = xs := by cases xs <;> simp [mrg, mrg.go]
theorem mrg_cons {α : Type} (le : α → α → Bool) (x y : α) (xs ys : List α) : mrg le (x :: xs) (y :: ys) = if le x y = true then x :: mrg le xs (y :: ys) else y :: mrg le (x :: xs) ys := by
  rw [mrg, mrg.go]
  split
  · rfl
  · rw [mrg]
theorem ins_mrg {α : Type} {le : α → α → Bool} (h : Ord le) (x : α) : ∀ (as bs : List α), ins le x (mrg le as bs) = mrg le (ins le x as) bs
  | [], [] => by simp [ins, mrg, mrg.go]
  | [], b :: bs => by
    rw [mrg_nil, ins, ins, mrg_cons, mrg_nil]
    split
    · rfl
    · have := ins_mrg h x [] bs
      rw [mrg_nil, ins] at this; rw [this]
  | a :: as, [] => by rw [mrg_nil', mrg_nil']
  | a :: as, b :: bs => by
    by_cases hxa : le x a = true
    · have e1 : ins le x (a :: as) = x :: a :: as := by rw [ins, if_pos hxa]
      rw [e1]
      by_cases hxb : le x b = true
      · rw [mrg_cons le x b (a :: as) bs, if_pos hxb, mrg_cons le a b as bs]
        split
        · rw [ins, if_pos hxa]
        · rw [ins, if_pos hxb]
      · have hab : ¬ le a b = true := fun hab => hxb (h.trans _ _ _ hxa hab)
        rw [mrg_cons, if_neg hab, ins, if_neg hxb, mrg_cons (x := x), if_neg hxb, ins_mrg h x (a :: as) bs, e1]
    · have e1 : ins le x (a :: as) = a :: ins le x as := by rw [ins, if_neg hxa]
      have hax := h.not (Bool.eq_false_iff.2 hxa)
      rw [e1]
      by_cases hab : le a b = true
      · rw [mrg_cons, if_pos hab, ins, if_neg hxa, ins_mrg h x as (b :: bs), mrg_cons, if_pos hab]
      · have hxb : ¬ le x b = true := fun hxb => hab (h.trans _ _ _ hax hxb)
        rw [mrg_cons, if_neg hab, ins, if_neg hxb, ins_mrg h x (a :: as) bs, e1, mrg_cons, if_neg hab]
theorem isort_append {α : Type} {le : α → α → Bool} (h : Ord le) : ∀ (xs ys : List α), isort le (xs ++ ys) = mrg le (isort le xs) (isort le ys)
  | [], ys => by rw [List.nil_append, isort, mrg_nil]
  | x :: xs, ys => by rw [List.cons_append, isort, isort_append h xs ys, ins_mrg h, isort]
/-- A merge may be parted. -/
theorem mrg_split {α : Type} {le : α → α → Bool} : ∀ (x1 y1 x2 y2 : List α), (∀ x ∈ x1, ∀ y ∈ y2, le x y = true) → (∀ y ∈ y1, ∀ x ∈ x2, le x y = false) → mrg le (x1 ++ x2) (y1 ++ y2) = mrg le x1 y1 ++ mrg le x2 y2
  | [], [], x2, y2, _, _ => by rw [mrg_nil]; rfl
  | [], y :: y1, x2, y2, h1, h2 => by
    have ih := mrg_split [] y1 x2 y2 h1 (fun y' hy' => h2 y' (by simp [hy']))
    rw [mrg_nil] at ih ⊢
    cases x2 with
    | nil => simp [mrg_nil]
    | cons x x2 =>
      rw [List.nil_append, List.cons_append, mrg_cons, if_neg (by simp [h2 y (by simp) x (by simp)])]
      rw [List.nil_append] at ih
      rw [ih]; rfl
  | x :: x1, [], x2, y2, h1, h2 => by
    have ih := mrg_split x1 [] x2 y2 (fun x' hx' => h1 x' (by simp [hx'])) h2
    rw [mrg_nil'] at ih ⊢
    rw [List.nil_append] at ih ⊢
    cases y2 with
    | nil => simp [mrg_nil']
    | cons y y2 =>
      rw [List.cons_append, mrg_cons, if_pos (h1 x (by simp) y (by simp)), ih]; rfl
  | x :: x1, y :: y1, x2, y2, h1, h2 => by
    rw [List.cons_append, List.cons_append, mrg_cons, mrg_cons]
    split
    · have ih := mrg_split x1 (y :: y1) x2 y2 (fun x' hx' => h1 x' (by simp [hx'])) h2
      rw [← List.cons_append, ih]; rfl
    · have ih := mrg_split (x :: x1) y1 x2 y2 h1 (fun y' hy' => h2 y' (by simp [hy']))
      rw [← List.cons_append, ih]; rfl
theorem ins_mem {α : Type} {le : α → α → Bool} {x y : α} : ∀ {l : List α}, y ∈ ins le x l → y = x ∨ y ∈ l
  | [], h => by simp [ins] at h; exact .inl h
  | z :: l, h => by
    unfold ins at h
    split at h
    · simpa using h
    · rcases List.mem_cons.1 h with h | h
      · right; simp [h]
      · rcases ins_mem h with h | h
        · exact .inl h
        · right; simp [h]
theorem ins_len {α : Type} (le : α → α → Bool) (x : α) : ∀ (l : List α), (ins le x l).length = l.length + 1
  | [] => rfl
  | z :: l => by
    unfold ins; split
    · simp
    · simp [ins_len le x l]
theorem isort_len {α : Type} (le : α → α → Bool) : ∀ (l : List α), (isort le l).length = l.length
  | [] => rfl
  | x :: l => by rw [isort, ins_len, isort_len le l]; rfl
theorem isort_mem {α : Type} {le : α → α → Bool} {y : α} : ∀ {l : List α}, y ∈ isort le l → y ∈ l
  | [], h => by simp [isort] at h
  | x :: l, h => by
    rw [isort] at h
    rcases ins_mem h with h | h
    · simp [h]
    · have := isort_mem h; simp [this]
theorem ins_sorted {α : Type} {le : α → α → Bool} (h : Ord le) (x : α) : ∀ {l : List α}, l.Pairwise (fun a b => le a b = true) → (ins le x l).Pairwise (fun a b => le a b = true)
  | [], _ => by simp [ins]
  | z :: l, hp => by
    have hz := List.pairwise_cons.1 hp
    unfold ins; split
    · rename_i hxz
      refine List.pairwise_cons.2 ⟨fun b hb => ?_, hp⟩
      rcases List.mem_cons.1 hb with rfl | hb
      · exact hxz
      · exact h.trans _ _ _ hxz (hz.1 b hb)
    · rename_i hxz
      refine List.pairwise_cons.2 ⟨fun b hb => ?_, ins_sorted h x hz.2⟩
      rcases ins_mem hb with rfl | hb
      · exact h.not (Bool.eq_false_iff.2 hxz)
      · exact hz.1 b hb
theorem isort_sorted {α : Type} {le : α → α → Bool} (h : Ord le) : ∀ (l : List α), (isort le l).Pairwise (fun a b => le a b = true)
  | [] => List.Pairwise.nil
  | x :: l => by rw [isort]; exact ins_sorted h x (isort_sorted h l)
/-- One more at the end, put in from the right. -/
theorem mrg_last {α : Type} {le : α → α → Bool} {p q : List α} {x : α} (hp : ∀ y ∈ p, le y x = true) (hq : ∀ y ∈ q, le y x = false) : mrg le (p ++ q) [x] = p ++ x :: q := by
  have := mrg_split p [] q [x] (fun a ha y hy => by simp at hy; subst hy; exact hp a ha) (fun y hy => by cases hy) (le := le)
  rw [List.nil_append, mrg_nil'] at this
  rw [this]
  congr 1
  cases q with
  | nil => rw [mrg_nil]
  | cons y q => rw [mrg_cons, if_neg (by simp [hq y (by simp)]), mrg_nil']
end Pl
end Go.Proofs.YtojdpjpldokjmaaGreatDoor
/- Values have an order: plainly. And values are of their types. -/
namespace Go.Proofs.YtojdpjpldokjmaaGreatDoor
namespace Pl
open Go.Deep

/-- Below 0, 0, above 0: one order, both ways. -/
structure Tri {α : Type} (c : α → α → Int) : Prop where
  anti : ∀ a b, c b a = - c a b
  trans : ∀ a b d, c a b ≤ 0 → c b d ≤ 0 → c a d ≤ 0
theorem Tri.ord {α : Type} {c : α → α → Int} (h : Tri c) : Ord (fun a b => decide (c a b ≤ 0)) :=
  ⟨fun a b => by have := h.anti a b; simp; omega, fun a b d h1 h2 => by simp at *; exact h.trans a b d h1 h2⟩
theorem Tri.zero_left {α : Type} {c : α → α → Int} (h : Tri c) {a b : α} (d : α) (h0 : c a b = 0) : (c a d ≤ 0 ↔ c b d ≤ 0) ∧ (c d a ≤ 0 ↔ c d b ≤ 0) := by
  have h1 := h.anti a b
  exact ⟨⟨fun k => h.trans b a d (by omega) k, fun k => h.trans a b d (by omega) k⟩, ⟨fun k => h.trans d a b k (by omega), fun k => h.trans d b a k (by omega)⟩⟩
theorem tri_int : Tri Lib.compareInt := by
  refine ⟨fun a b => ?_, fun a b d h1 h2 => ?_⟩
  · unfold Lib.compareInt; repeat' split
    all_goals omega
  · unfold Lib.compareInt at *
    repeat' (split at h1)
    all_goals
      repeat' (split at h2)
      all_goals
        repeat' split
        all_goals omega
theorem u8_lt {a b : UInt8} : a < b ↔ a.toNat < b.toNat := Iff.rfl
theorem bytes_anti : ∀ (a b : List UInt8), Lib.compareBytes b a = - Lib.compareBytes a b
  | [], [] => rfl
  | [], _ :: _ => rfl
  | _ :: _, [] => rfl
  | x :: a, y :: b => by
    unfold Lib.compareBytes
    simp only [u8_lt]
    have ih := bytes_anti a b
    repeat' split
    all_goals omega
theorem bytes_trans : ∀ (a b d : List UInt8), Lib.compareBytes a b ≤ 0 → Lib.compareBytes b d ≤ 0 → Lib.compareBytes a d ≤ 0
  | [], _, [], _, _ => by simp [Lib.compareBytes]
  | [], _, _ :: _, _, _ => by simp [Lib.compareBytes]
  | _ :: _, [], _, h, _ => by simp [Lib.compareBytes] at h
  | _ :: _, _ :: _, [], _, h => by simp [Lib.compareBytes] at h
  | x :: a, y :: b, z :: d, h1, h2 => by
    unfold Lib.compareBytes at *
    simp only [u8_lt] at *
    have ih := bytes_trans a b d
    repeat' (split at h1)
    all_goals
      repeat' (split at h2)
      all_goals
        repeat' split
        all_goals first
          | omega
          | exact ih h1 h2
/-- The order of values, whatever their types. -/
def ordT (a b : V) : Int := if a.kind = b.kind then (if a.kind = 0 then 0 else if a.kind = 2 then Lib.compareBytes a.s b.s else Lib.compareInt a.n b.n) else Lib.compareInt a.kind b.kind
theorem cmpI_zero {x y : Int} : Lib.compareInt x y = 0 ↔ x = y := by
  unfold Lib.compareInt; repeat' split
  all_goals omega
theorem cmpI_le {x y : Int} : Lib.compareInt x y ≤ 0 ↔ x ≤ y := by
  unfold Lib.compareInt; repeat' split
  all_goals omega
theorem tri_ordT : Tri ordT := by
  refine ⟨fun a b => ?_, fun a b d h1 h2 => ?_⟩
  · unfold ordT
    by_cases h : a.kind = b.kind
    · rw [if_pos h, if_pos h.symm, ← h]
      split
      · rfl
      · split
        · exact bytes_anti _ _
        · exact tri_int.anti _ _
    · rw [if_neg h, if_neg (fun e => h e.symm)]; exact tri_int.anti _ _
  · unfold ordT at *
    by_cases hab : a.kind = b.kind
    · rw [if_pos hab] at h1
      by_cases hbd : b.kind = d.kind
      · rw [if_pos hbd] at h2
        rw [if_pos (hab.trans hbd)]
        rw [← hab] at h2
        split
        · exact Int.le_refl 0
        · rename_i h0
          rw [if_neg h0] at h1 h2
          split
          · rename_i h2'
            rw [if_pos h2'] at h1 h2
            exact bytes_trans _ _ _ h1 h2
          · rename_i h2'
            rw [if_neg h2'] at h1 h2
            exact tri_int.trans _ _ _ h1 h2
      · rw [if_neg hbd] at h2
        rw [if_neg (by rw [hab]; exact hbd), hab]; exact h2
    · rw [if_neg hab, cmpI_le] at h1
      by_cases hbd : b.kind = d.kind
      · rw [if_neg (by rw [← hbd]; exact hab), ← hbd, cmpI_le]; exact h1
      · rw [if_neg hbd, cmpI_le] at h2
        rw [if_neg (by omega), cmpI_le]; omega
/-- Of one type, or NULL. -/
def ofType (ty : Int) (v : V) : Prop := v.kind = 0 ∨ v.kind = ty
theorem order_ordT {ty : Int} {a b : V} (ha : ofType ty a) (hb : ofType ty b) : order a b = ordT a b := by
  unfold order ordT V.miss
  by_cases h : a.kind = b.kind
  · rw [if_pos h]
    by_cases h0 : a.kind = 0
    · rw [if_pos h0, if_pos (by simp [h0]), cmpI_zero.2 h]
    · rw [if_neg h0, if_neg (by simp [h0, ← h])]
  · rw [if_neg h]
    rw [if_pos (by unfold ofType at *; simp; omega)]

/-- Rows' ranks, whatever they are. -/
def cmpT : List Bool → List V → List V → Int
  | [], _, _ => 0
  | d :: ds, as, bs => if ordT (as.headD nul) (bs.headD nul) = 0 then cmpT ds as.tail bs.tail else if d = true then - ordT (as.headD nul) (bs.headD nul) else ordT (as.headD nul) (bs.headD nul)
theorem tri_cmpT : ∀ ds, Tri (cmpT ds)
  | [] => ⟨fun _ _ => rfl, fun _ _ _ _ _ => Int.le_refl 0⟩
  | d :: ds => by
    have ih := tri_cmpT ds
    refine ⟨fun a b => ?_, fun a b e h1 h2 => ?_⟩
    · unfold cmpT
      have := tri_ordT.anti (a.headD nul) (b.headD nul)
      have := ih.anti a.tail b.tail
      repeat' split
      all_goals omega
    · unfold cmpT at *
      have t1 := Decidable.not_or_of_imp (fun h : _ ∧ _ => tri_ordT.trans (a.headD nul) (b.headD nul) (e.headD nul) h.1 h.2)
      have t2 := Decidable.not_or_of_imp (fun h : _ ∧ _ => tri_ordT.trans (e.headD nul) (b.headD nul) (a.headD nul) h.1 h.2)
      have a1 := tri_ordT.anti (a.headD nul) (b.headD nul)
      have a2 := tri_ordT.anti (b.headD nul) (e.headD nul)
      have a3 := tri_ordT.anti (a.headD nul) (e.headD nul)
      have ih' := Decidable.not_or_of_imp (fun h : _ ∧ _ => ih.trans a.tail b.tail e.tail h.1 h.2)
      have z1 := Decidable.not_or_of_imp (fun h0 : ordT (a.headD nul) (b.headD nul) = 0 => tri_ordT.zero_left (e.headD nul) h0)
      have z2 := Decidable.not_or_of_imp (fun h0 : ordT (b.headD nul) (e.headD nul) = 0 => tri_ordT.zero_left (a.headD nul) h0)
      have z3 := Decidable.not_or_of_imp (fun h0 : ordT (a.headD nul) (e.headD nul) = 0 => tri_ordT.zero_left (b.headD nul) h0)
      generalize ordT (a.headD nul) (b.headD nul) = x at *
      generalize ordT (b.headD nul) (a.headD nul) = x' at *
      generalize ordT (b.headD nul) (e.headD nul) = y at *
      generalize ordT (e.headD nul) (b.headD nul) = y' at *
      generalize ordT (a.headD nul) (e.headD nul) = z at *
      generalize ordT (e.headD nul) (a.headD nul) = z' at *
      generalize cmpT ds a.tail b.tail = p at *
      generalize cmpT ds b.tail e.tail = q at *
      generalize cmpT ds a.tail e.tail = r at *
      clear ih
      split at h1 <;> split at h2 <;> split <;> (try split at h1) <;> (try split at h2) <;> (try split) <;> first | contradiction | omega
/-- Ranks that are of their types. -/
def ranksOf (tys : List Int) (r : List V) : Prop := r.length = tys.length ∧ ∀ (i : Nat) (v : V) (ty : Int), r[i]? = some v → tys[i]? = some ty → ofType ty v
theorem cmp_cmpT : ∀ (tys : List Int) (ds : List Bool) (a b : List V), ds.length = tys.length → ranksOf tys a → ranksOf tys b → cmpRanks a b ds = cmpT ds a b
  | [], [], a, b, _, _, _ => by cases a <;> cases b <;> rfl
  | [], d :: ds, _, _, h, _, _ => by simp at h
  | ty :: tys, [], _, _, h, _, _ => by simp at h
  | ty :: tys, d :: ds, a, b, h, ha, hb => by
    cases a with
    | nil => exact absurd ha.1 (by simp)
    | cons x a =>
      cases b with
      | nil => exact absurd hb.1 (by simp)
      | cons y b =>
        have hx := ha.2 0 x ty rfl rfl
        have hy := hb.2 0 y ty rfl rfl
        have ha' : ranksOf tys a := ⟨by simpa using ha.1, fun i v t h1 h2 => ha.2 (i + 1) v t (by simpa using h1) (by simpa using h2)⟩
        have hb' : ranksOf tys b := ⟨by simpa using hb.1, fun i v t h1 h2 => hb.2 (i + 1) v t (by simpa using h1) (by simpa using h2)⟩
        have ih := cmp_cmpT tys ds a b (by simpa using h) ha' hb'
        unfold cmpRanks cmpT
        simp only [List.headD_cons, List.tail_cons]
        rw [order_ordT hx hy, ih]
        rfl
end Pl
end Go.Proofs.YtojdpjpldokjmaaGreatDoor
/- What a value comes to is a value, and of its type: plainly. -/
namespace Go.Proofs.YtojdpjpldokjmaaGreatDoor
namespace Pl
set_option linter.unusedVariables false
open Go.Deep

def okV (v : V) : Prop := (v.kind = 0 ∧ v.n = 0 ∧ v.s = []) ∨ (v.kind = 1 ∧ v.s = [] ∧ -9223372036854775808 ≤ v.n ∧ v.n ≤ 9223372036854775807) ∨ (v.kind = 2 ∧ v.n = 0 ∧ v.s.length ≤ 40) ∨ (v.kind = 3 ∧ (v.n = 0 ∨ v.n = 1) ∧ v.s = [])
theorem okV.range {v : V} (h : okV v) : -9223372036854775808 ≤ v.n ∧ v.n ≤ 9223372036854775807 := by
  rcases h with h | h | h | h <;> omega
theorem okV.kind {v : V} (h : okV v) : 0 ≤ v.kind ∧ v.kind ≤ 3 := by
  rcases h with h | h | h | h <;> omega
theorem ok_nul : okV nul := .inl ⟨rfl, rfl, rfl⟩
theorem ok_tru (b : Bool) : okV (tru b) := by cases b <;> exact .inr (.inr (.inr ⟨rfl, by simp [tru], rfl⟩))
theorem ok_ranged {n : Int} {v : V} (h : ranged n = .ok v) : okV v ∧ v.kind = 1 := by
  unfold ranged at h
  split at h
  · cases h; exact ⟨.inr (.inl ⟨rfl, rfl, by assumption⟩), rfl⟩
  · cases h
theorem ok_reckon {op : Nat} {a b : Int} {v : V} (ha : -9223372036854775808 ≤ a ∧ a ≤ 9223372036854775807) (h : reckon op a b = .ok v) : okV v ∧ v.kind = 1 := by
  unfold reckon at h
  repeat' (split at h)
  all_goals first
    | (cases h; done)
    | exact ok_ranged h
    | (cases h
       refine ⟨.inr (.inl ⟨rfl, rfl, ?_⟩), rfl⟩
       show -9223372036854775808 ≤ Int.tmod a b ∧ Int.tmod a b ≤ 9223372036854775807
       have h1 : (Int.tmod a b).natAbs ≤ a.natAbs := by rw [Int.natAbs_tmod]; exact Nat.mod_le _ _
       have h2 : 0 ≤ a → 0 ≤ Int.tmod a b := fun h => Int.tmod_nonneg b h
       have h3 : a ≤ 0 → Int.tmod a b ≤ 0 := fun h => by
         have := Int.tmod_nonneg (a := -a) b (by omega)
         rw [Int.neg_tmod] at this; omega
       rcases Int.le_total 0 a with h | h
       · have := h2 h; omega
       · have := h3 h; omega)
theorem ok_ap1 {op : Nat} {v u : V} (hv : okV v) (h : ap1 op v = .ok u) : okV u := by
  unfold ap1 at h
  split at h
  · unfold neg at h
    split at h
    · cases h; exact hv
    · exact (ok_ranged h).1
  · split at h
    · cases h
      unfold opp; split
      · exact hv
      · exact ok_tru _
    · cases h; exact ok_tru _
theorem ok_ap2 {op : Nat} {l r u : V} (hl : okV l) (hr : okV r) (h : ap2 op l r = .ok u) : okV u := by
  unfold ap2 at h
  split at h
  · cases h
    unfold joined; split <;> assumption
  · split at h
    · cases h; exact ok_nul
    · split at h
      · exact (ok_reckon hl.range h).1
      · cases h; exact ok_tru _
def okRow (row : List V) : Prop := ∀ v ∈ row, okV v
theorem getD_ok {row : List V} (h : okRow row) (i : Nat) : okV (row.getD i nul) := by
  rw [List.getD_eq_getElem?_getD]
  cases hi : row[i]? with
  | none => exact ok_nul
  | some v => exact h v (List.mem_of_getElem? hi)
theorem ev_ok (cols : List Col) {row : List V} (hrow : okRow row) : ∀ {t : T} {v : V}, WfK t → ev cols row t = .ok v → okV v
  | .nil, v, _, h => by cases h; exact ok_nul
  | .node a1 a2 p l r, v, hk, h => by
    obtain ⟨k0, kl, kr⟩ := hk
    unfold ev at h
    split at h
    · rename_i h0
      cases h
      have := k0 h0
      unfold okV litOf
      simp only
      rcases this with h | h | h | h
      · exact .inl h
      · exact .inr (.inl ⟨h.1, h.2.1, by omega, h.2.2.2⟩)
      · exact .inr (.inr (.inl h))
      · exact .inr (.inr (.inr h))
    · split at h
      · cases h; exact getD_ok hrow _
      · cases hl : ev cols row l with
        | error e => rw [hl] at h; cases h
        | ok a =>
          have ha := ev_ok cols hrow kl hl
          rw [hl] at h; simp only at h
          split at h
          · exact ok_ap1 ha h
          · split at h
            · cases h; exact ha
            · cases hr : ev cols row r with
              | error e => rw [hr] at h; cases h
              | ok b =>
                rw [hr] at h; simp only at h
                exact ok_ap2 ha (ev_ok cols hrow kr hr) h

/-- A row of its columns' types. -/
def rowOf (cols : List Col) (row : List V) : Prop := ∀ (i : Nat), ofType (typeAt cols i) (row.getD i nul)
theorem fit_ok {op : Nat} {a b ty : Int} (h : fit op a b = .ok ty) : ty = gives op ∧ alike a (takes op) = true ∧ alike b (takes op) = true ∧ alike a b = true := by
  unfold fit at h
  split at h
  · rename_i hc
    cases h
    simp at hc
    exact ⟨rfl, hc.1.1, hc.1.2, hc.2⟩
  · cases h
theorem ap1_type {op : Nat} {v u : V} {a : Int} (h2 : 2 ≤ op) (h5 : op ≤ 5) (hv : ofType a v) (ha : alike a (takes op) = true) (h : ap1 op v = .ok u) : ofType (gives op) u := by
  unfold ap1 at h
  split at h
  · rename_i e; subst e
    unfold neg at h
    split at h
    · rename_i hm; cases h; left; simpa [V.miss] using hm
    · right; exact (ok_ranged h).2
  · have hg : gives op = 3 := by unfold gives; rw [if_neg (by omega)]
    rw [hg]
    split at h
    · cases h
      unfold opp; split
      · rename_i hm; left; simpa [V.miss] using hm
      · right; rfl
    · cases h; right; rfl
theorem ap2_type {op : Nat} {l r u : V} {a b : Int} (h6 : 6 ≤ op) (h18 : op ≤ 18) (hl : okV l) (hr : okV r) (tl : ofType a l) (tr : ofType b r) (ha : alike a (takes op) = true) (hb : alike b (takes op) = true) (h : ap2 op l r = .ok u) : ofType (gives op) u := by
  unfold ap2 at h
  split at h
  · rename_i h17
    cases h
    have hg : gives op = 3 := by unfold gives; rw [if_neg (by omega)]
    have ht : takes op = 3 := by unfold takes; rw [if_pos (by omega)]
    rw [hg]
    rw [ht] at ha hb
    simp [alike] at ha hb
    unfold joined; split
    · unfold ofType at *; omega
    · unfold ofType at *; omega
  · split at h
    · cases h; left; rfl
    · split at h
      · have hg : gives op = 1 := by unfold gives; rw [if_pos (by omega)]
        rw [hg]; right; exact (ok_reckon hl.range h).2
      · have hg : gives op = 3 := by unfold gives; rw [if_neg (by omega)]
        rw [hg]; cases h; right; rfl
theorem ev_type {cols : List Col} {row : List V} (hrow : okRow row) (hty : rowOf cols row) : ∀ {t : T} {v : V} {ty : Int}, Wf t → WfK t → tc cols t = .ok ty → ev cols row t = .ok v → ofType ty v
  | .nil, _, _, hw, _, _, _ => absurd hw id
  | .node a1 a2 p l r, v, ty, hw, hk, ht, h => by
    obtain ⟨hop, _, hwr, hwl⟩ := hw
    obtain ⟨_, kl, kr⟩ := hk
    unfold ev at h
    unfold tc at ht
    split at h
    · rename_i h0
      rw [if_pos h0] at ht
      cases h; cases ht
      right; rfl
    · rename_i h0
      rw [if_neg h0] at ht
      split at h
      · rename_i h1
        rw [if_pos h1] at ht
        cases h
        unfold idx
        cases hc : colAt cols p.src p.name with
        | none => rw [hc] at ht; cases ht
        | some i => rw [hc] at ht; cases ht; exact hty i
      · rename_i h1
        rw [if_neg h1] at ht
        cases tl : tc cols l with
        | error e => rw [tl] at ht; cases ht
        | ok a =>
          rw [tl] at ht; simp only at ht
          cases hl : ev cols row l with
          | error e => rw [hl] at h; cases h
          | ok x =>
            rw [hl] at h; simp only at h
            have hx := ev_type hrow hty (hwl (by omega)) kl tl hl
            split at h
            · rename_i h5
              rw [if_pos h5] at ht
              obtain ⟨rfl, f1, _, _⟩ := fit_ok ht
              exact ap1_type (by omega) h5 hx f1 h
            · rename_i h5
              rw [if_neg h5] at ht
              cases tr : tc cols r with
              | error e => rw [tr] at ht; cases ht
              | ok b =>
                rw [tr] at ht; simp only at ht
                obtain ⟨rfl, f1, f2, f3⟩ := fit_ok ht
                split at h
                · rename_i h17
                  cases h
                  have hg : gives p.op = 3 := by unfold gives; rw [if_neg (by omega)]
                  rw [hg, h17.2]; right; rfl
                · cases hr : ev cols row r with
                  | error e => rw [hr] at h; cases h
                  | ok y =>
                    rw [hr] at h; simp only at h
                    exact ap2_type (by omega) hop (ev_ok cols hrow kl hl) (ev_ok cols hrow kr hr) hx (ev_type hrow hty (hwr (by omega)) kr tr hr) f1 f2 h
end Pl
end Go.Proofs.YtojdpjpldokjmaaGreatDoor
/- A database stays well made: plainly. -/
namespace Go.Proofs.YtojdpjpldokjmaaGreatDoor
namespace Pl
open Go.Deep

/-- A row that fits columns. -/
def RowFor (cols : List Col) (row : List V) : Prop := row.length = cols.length ∧ okRow row ∧ rowOf cols row
structure okTab (t : Tab) : Prop where
  ncols : t.cols.length ≤ 5
  pos : 1 ≤ t.cols.length
  cols : ∀ c ∈ t.cols, (c.2 = 1 ∨ c.2 = 2 ∨ c.2 = 3) ∧ c.1.length ≤ 10
  name : t.name.length ≤ 10
  nrows : t.rows.length ≤ 25
  rows : ∀ r ∈ t.rows, RowFor (scope [] t) r
def okDB (db : DB) : Prop := db.length ≤ 6 ∧ ∀ t ∈ db, okTab t

theorem typeAt_scope (src : List UInt8) (t : Tab) (i : Nat) : typeAt (scope src t) i = typeAt (scope [] t) i := by
  unfold typeAt scope
  simp only [List.getElem?_map]
  cases t.cols[i]? <;> rfl
theorem typeAt_col (src : List UInt8) (t : Tab) (i : Nat) : typeAt (scope src t) i = (t.cols.getD i ([], 0)).2 := by
  unfold typeAt scope
  simp only [List.getElem?_map, List.getD]
  cases t.cols[i]? <;> rfl
theorem scope_len (src : List UInt8) (t : Tab) : (scope src t).length = t.cols.length := by simp [scope]
theorem RowFor.src {src : List UInt8} {t : Tab} {r : List V} (h : RowFor (scope [] t) r) : RowFor (scope src t) r :=
  ⟨by rw [h.1, scope_len, scope_len], h.2.1, fun i => by rw [typeAt_scope]; exact h.2.2 i⟩
theorem RowFor.unsrc {src : List UInt8} {t : Tab} {r : List V} (h : RowFor (scope src t) r) : RowFor (scope [] t) r :=
  ⟨by rw [h.1, scope_len, scope_len], h.2.1, fun i => by rw [← typeAt_scope src]; exact h.2.2 i⟩
theorem typeAt_append (a b : List Col) (i : Nat) : typeAt (a ++ b) i = if i < a.length then typeAt a i else typeAt b (i - a.length) := by
  unfold typeAt
  by_cases h : i < a.length
  · rw [if_pos h, List.getElem?_append_left h]
  · rw [if_neg h, List.getElem?_append_right (by omega)]
theorem getD_append (a b : List V) (i : Nat) : (a ++ b).getD i nul = if i < a.length then a.getD i nul else b.getD (i - a.length) nul := by
  simp only [List.getD]
  split
  · rename_i h; rw [List.getElem?_append_left h]
  · rename_i h; rw [List.getElem?_append_right (by omega)]
theorem RowFor.append {a b : List Col} {r q : List V} (h : RowFor a r) (k : RowFor b q) : RowFor (a ++ b) (r ++ q) := by
  refine ⟨by rw [List.length_append, List.length_append, h.1, k.1], fun v hv => ?_, fun i => ?_⟩
  · rcases List.mem_append.1 hv with hv | hv
    · exact h.2.1 v hv
    · exact k.2.1 v hv
  · rw [typeAt_append, getD_append, h.1]
    split
    · exact h.2.2 i
    · exact k.2.2 _
theorem getD_rep (n i : Nat) : (List.replicate n nul).getD i nul = nul := by
  simp only [List.getD, List.getElem?_replicate]
  split <;> rfl
theorem RowFor.nuls (cols : List Col) : RowFor cols (List.replicate cols.length nul) := by
  refine ⟨by simp, fun v hv => ?_, fun i => ?_⟩
  · rw [List.eq_of_mem_replicate hv]; exact ok_nul
  · rw [getD_rep]; exact .inl rfl
theorem RowFor.nil : RowFor [] [] := ⟨rfl, fun v hv => (by cases hv), fun i => .inl rfl⟩

/-- TRUE, where nothing stands. -/
theorem cond_nil : cond .nil = tLit 3 1 [] := rfl
theorem cond_ok {t : T} (h : okW t) : okT (cond t) := by
  rcases h with rfl | h
  · rw [cond_nil]
    obtain ⟨a, b, c⟩ := lit_good (kind := 3) (n := 1) (s := []) (.inr (.inr (.inr ⟨rfl, .inr rfl, rfl⟩)))
    exact ⟨a, b, by rw [c]; decide⟩
  · cases t with
    | nil => exact absurd h.1 id
    | node => exact h
theorem ev_true (cols : List Col) (row : List V) : ev cols row (cond .nil) = .ok (tru true) := by
  rw [cond_nil]; rfl
theorem tc_true (cols : List Col) : tcAs cols (cond .nil) 3 = none := by
  rw [cond_nil]; rfl

/-- Values of a row: how many, well made, of their types. -/
theorem evAll_ok {cols : List Col} {row : List V} (hr : RowFor cols row) : ∀ {ts : List T} {vs : List V}, (∀ t ∈ ts, okT t) → evAll cols row ts = .ok vs → vs.length = ts.length ∧ okRow vs
  | [], vs, _, h => by simp [evAll] at h; subst h; exact ⟨rfl, fun v hv => by cases hv⟩
  | t :: ts, vs, ht, h => by
    unfold evAll at h
    cases he : ev cols row t with
    | error e => rw [he] at h; cases h
    | ok v =>
      rw [he] at h
      simp only at h
      cases hs : evAll cols row ts with
      | error e => rw [hs] at h; cases h
      | ok us =>
        rw [hs] at h
        simp at h; subst h
        obtain ⟨a, b⟩ := evAll_ok hr (fun t h => ht t (by simp [h])) hs
        refine ⟨by simp [a], fun u hu => ?_⟩
        rcases List.mem_cons.1 hu with rfl | hu
        · exact ev_ok cols hr.2.1 (ht t (by simp)).2.1 he
        · exact b u hu
/-- The types of values. -/
def tysOf (cols : List Col) (ts : List T) : List Int := ts.map (fun t => match tc cols t with | .ok a => a | .error _ => 0)
theorem tcAll_ok {cols : List Col} : ∀ {ts : List T}, tcAll cols ts = none → ∀ t ∈ ts, ∃ ty, tc cols t = .ok ty
  | [], _, t, h => by cases h
  | t :: ts, h, u, hu => by
    unfold tcAll at h
    cases ht : tc cols t with
    | error e => rw [ht] at h; cases h
    | ok a =>
      rw [ht] at h
      rcases List.mem_cons.1 hu with rfl | hu
      · exact ⟨a, ht⟩
      · exact tcAll_ok h u hu
theorem tcAs_ok {cols : List Col} {t : T} {w : Int} (h : tcAs cols t w = none) : ∃ ty, tc cols t = .ok ty ∧ alike ty w = true := by
  unfold tcAs at h
  cases ht : tc cols t with
  | error e => rw [ht] at h; cases h
  | ok a =>
    rw [ht] at h
    refine ⟨a, rfl, ?_⟩
    simp only at h
    split at h
    · assumption
    · cases h
theorem evAll_types {cols : List Col} {row : List V} (hr : RowFor cols row) : ∀ {ts : List T} {vs : List V}, (∀ t ∈ ts, okT t) → (∀ t ∈ ts, ∃ ty, tc cols t = .ok ty) → evAll cols row ts = .ok vs → ranksOf (tysOf cols ts) vs
  | [], vs, _, _, h => by simp [evAll] at h; subst h; exact ⟨rfl, fun i v ty hv => by simp at hv⟩
  | t :: ts, vs, ht, hty, h => by
    unfold evAll at h
    cases he : ev cols row t with
    | error e => rw [he] at h; cases h
    | ok v =>
      rw [he] at h
      simp only at h
      cases hs : evAll cols row ts with
      | error e => rw [hs] at h; cases h
      | ok us =>
        rw [hs] at h
        simp at h; subst h
        obtain ⟨a, b⟩ := evAll_types hr (fun t h => ht t (by simp [h])) (fun t h => hty t (by simp [h])) hs
        obtain ⟨ty, hy⟩ := hty t (by simp)
        refine ⟨by simp [tysOf] at a ⊢; exact a, fun i u ty' hu hy' => ?_⟩
        cases i with
        | zero =>
          simp [tysOf] at hu hy'
          subst hu
          rw [hy] at hy'
          simp at hy'
          subst hy'
          exact ev_type hr.2.1 hr.2.2 (ht t (by simp)).1 (ht t (by simp)).2.1 hy he
        | succ i =>
          simp [tysOf] at hu hy'
          exact b i u ty' hu (by simp [tysOf]; exact hy')

theorem tabAt_lt {db : DB} {name : List UInt8} {i : Nat} (h : tabAt db name = some i) : i < db.length := by
  unfold tabAt at h
  rw [List.findIdx?_eq_some_iff_findIdx_eq] at h
  exact h.1
theorem tabD_mem {db : DB} {i : Nat} (h : i < db.length) : tabD db i ∈ db := by
  unfold tabD
  rw [List.getD_eq_getElem?_getD, List.getElem?_eq_getElem h]
  exact List.getElem_mem h
theorem setRows_len (db : DB) (i : Nat) (rows : List (List V)) : (setRows db i rows).length = db.length := by simp [setRows]
theorem mem_setRows {db : DB} {i : Nat} {rows : List (List V)} {t : Tab} (hi : i < db.length) (h : t ∈ setRows db i rows) : t ∈ db ∨ t = ⟨(tabD db i).name, (tabD db i).cols, rows⟩ := by
  unfold setRows at h
  rw [List.mem_iff_getElem?] at h
  obtain ⟨j, hj⟩ := h
  rw [List.getElem?_modify] at hj
  by_cases he : i = j
  · subst he
    rw [List.getElem?_eq_getElem hi] at hj
    simp at hj
    right
    rw [← hj]
    unfold tabD
    rw [List.getD_eq_getElem?_getD, List.getElem?_eq_getElem hi]
    rfl
  · left
    rw [List.mem_iff_getElem?]
    refine ⟨j, ?_⟩
    cases hg : db[j]? with
    | none => rw [hg] at hj; simp at hj
    | some x => rw [hg] at hj; simp [he] at hj; rw [hj]
theorem okDB.set {db : DB} (h : okDB db) {i : Nat} (hi : i < db.length) {rows : List (List V)} (hn : rows.length ≤ 25) (hr : ∀ r ∈ rows, RowFor (scope [] (tabD db i)) r) : okDB (setRows db i rows) := by
  refine ⟨by rw [setRows_len]; exact h.1, fun t ht => ?_⟩
  rcases mem_setRows hi ht with ht | rfl
  · exact h.2 t ht
  · have := h.2 _ (tabD_mem hi)
    exact ⟨this.ncols, this.pos, this.cols, this.name, hn, hr⟩

/-- A row that VALUES makes fits its table. -/
theorem row_fits : ∀ {ts : List T} {cs : List (List UInt8 × Int)} {vs : List V}, (∀ t ∈ ts, okT t) → (∀ c ∈ cs, c.2 ≠ 0) → ts.length = cs.length → tcRow ts (cs.map (·.2)) = none → evAll [] [] ts = .ok vs → ∀ i, ofType ((cs.getD i ([], 0)).2) (vs.getD i nul)
  | [], [], vs, _, _, _, _, h, i => by simp [evAll] at h; subst h; exact .inl rfl
  | [], c :: cs, _, _, _, hl, _, _, _ => by simp at hl
  | t :: ts, [], _, _, _, hl, _, _, _ => by simp at hl
  | t :: ts, c :: cs, vs, ht, hc, hl, htc, h, i => by
    unfold evAll at h
    cases he : ev [] [] t with
    | error e => rw [he] at h; cases h
    | ok v =>
      rw [he] at h
      simp only at h
      cases hs : evAll [] [] ts with
      | error e => rw [hs] at h; cases h
      | ok us =>
        rw [hs] at h
        simp at h; subst h
        simp only [List.map_cons, tcRow] at htc
        cases ha : tcAs [] t c.2 with
        | some e => rw [ha] at htc; cases htc
        | none =>
          rw [ha] at htc
          cases i with
          | zero =>
            obtain ⟨ty, hty, hal⟩ := tcAs_ok ha
            have := ev_type RowFor.nil.2.1 RowFor.nil.2.2 (ht t (by simp)).1 (ht t (by simp)).2.1 hty he
            simp only [List.getD_cons_zero]
            rcases this with h0 | h0
            · exact .inl h0
            · unfold alike at hal
              simp at hal
              rcases hal with (e | e) | e
              · exact .inr (by rw [h0, e])
              · exact .inl (by rw [h0, e])
              · exact absurd e (hc c (by simp))
          | succ i =>
            simp only [List.getD_cons_succ]
            exact row_fits (fun t h => ht t (by simp [h])) (fun c h => hc c (by simp [h])) (by simpa using hl) htc hs i
theorem sift_ok {cols : List Col} {c : T} : ∀ {rows : List (List V)} {z : List (List V) × List (List V)}, sift cols c rows = .ok z → (∀ r ∈ z.1, r ∈ rows) ∧ (∀ r ∈ z.2, r ∈ rows) ∧ z.1.length + z.2.length = rows.length
  | [], z, h => by simp [sift] at h; subst h; simp
  | r :: rs, z, h => by
    unfold sift at h
    cases he : ev cols r c with
    | error e => rw [he] at h; cases h
    | ok v =>
      rw [he] at h
      simp only at h
      cases hs : sift cols c rs with
      | error e => rw [hs] at h; cases h
      | ok y =>
        rw [hs] at h
        simp only at h
        obtain ⟨a, b, d⟩ := sift_ok hs
        injection h with h
        split at h
        · subst h
          refine ⟨fun x hx => ?_, fun x hx => List.mem_cons_of_mem _ (b x hx), by simp; omega⟩
          rcases List.mem_cons.1 hx with rfl | hx
          · simp
          · exact List.mem_cons_of_mem _ (a x hx)
        · subst h
          refine ⟨fun x hx => List.mem_cons_of_mem _ (a x hx), fun x hx => ?_, by simp; omega⟩
          rcases List.mem_cons.1 hx with rfl | hx
          · simp
          · exact List.mem_cons_of_mem _ (b x hx)
theorem alike_type {ty w : Int} {v : V} (hw : w ≠ 0) (h : alike ty w = true) (hv : ofType ty v) : ofType w v := by
  rcases hv with h0 | h0
  · exact .inl h0
  · unfold alike at h
    simp at h
    rcases h with (e | e) | e
    · exact .inr (by rw [h0, e])
    · exact .inl (by rw [h0, e])
    · exact absurd e hw
/-- What SET's parts are: places of columns, with values of their types. -/
def SetsOk (t : Tab) (ks : List Nat) (ts : List T) : Prop := ks.length = ts.length ∧ ∀ (j k : Nat) (x : T), ks[j]? = some k → ts[j]? = some x → k < t.cols.length ∧ tcAs (scope t.name t) x ((t.cols.getD k ([], 0)).2) = none
theorem colIdx_lt {t : Tab} {name : List UInt8} {k : Nat} (h : colIdx t name = some k) : k < t.cols.length := by
  unfold colIdx at h
  rw [List.findIdx?_eq_some_iff_findIdx_eq] at h
  exact h.1
theorem setsGo_ok {t : Tab} : ∀ {its : List It} {acc ks : List Nat}, setsGo t acc its = .ok ks → ∃ m, ks = acc ++ m ∧ SetsOk t m (its.map (·.tree))
  | [], acc, ks, h => by simp [setsGo] at h; subst h; exact ⟨[], by simp, rfl, fun j k x hj => by simp at hj⟩
  | it :: its, acc, ks, h => by
    unfold setsGo at h
    cases hc : colIdx t it.name with
    | none => rw [hc] at h; cases h
    | some k =>
      rw [hc] at h
      simp only at h
      split at h
      · cases h
      · cases ha : tcAs (scope t.name t) it.tree ((t.cols.getD k ([], 0)).2) with
        | some e => rw [ha] at h; cases h
        | none =>
          rw [ha] at h
          obtain ⟨m, rfl, hm⟩ := setsGo_ok h
          refine ⟨k :: m, by simp, by simp [hm.1], fun j k' x hj hx => ?_⟩
          cases j with
          | zero => simp at hj hx; subst hj; subst hx; exact ⟨colIdx_lt hc, ha⟩
          | succ j => simp at hj hx; exact hm.2 j k' x hj (by simpa using hx)
theorem getD_set (l : List V) (k i : Nat) (v : V) : (l.set k v).getD i nul = if k = i ∧ i < l.length then v else l.getD i nul := by
  simp only [List.getD, List.getElem?_set]
  by_cases h : k = i
  · subst h
    by_cases hl : k < l.length
    · simp [hl]
    · simp [hl]
  · simp [h]
theorem setRow_ok {t : Tab} (ht : okTab t) {row : List V} (hr : RowFor (scope t.name t) row) : ∀ {ks : List Nat} {ts : List T} {out r' : List V}, (∀ x ∈ ts, okT x) → SetsOk t ks ts → RowFor (scope t.name t) out → setRow (scope t.name t) row out ks ts = .ok r' → RowFor (scope t.name t) r'
  | [], ts, out, r', _, hs, ho, h => by
    cases ts with
    | nil => simp [setRow] at h; subst h; exact ho
    | cons x ts => simp [SetsOk] at hs
  | k :: ks, [], out, r', _, hs, ho, h => by simp [SetsOk] at hs
  | k :: ks, x :: ts, out, r', hx, hs, ho, h => by
    unfold setRow at h
    cases he : ev (scope t.name t) row x with
    | error e => rw [he] at h; cases h
    | ok v =>
      rw [he] at h
      obtain ⟨hk, hty⟩ := hs.2 0 k x rfl rfl
      refine setRow_ok ht hr (fun y hy => hx y (by simp [hy])) ⟨by simpa using hs.1, fun j k' y hj hy => hs.2 (j + 1) k' y (by simpa using hj) (by simpa using hy)⟩ ?_ h
      refine ⟨by rw [List.length_set]; exact ho.1, fun u hu => ?_, fun i => ?_⟩
      · rcases List.mem_or_eq_of_mem_set hu with hu | rfl
        · exact ho.2.1 u hu
        · exact ev_ok _ hr.2.1 (hx x (by simp)).2.1 he
      · rw [getD_set]
        split
        · rename_i hi
          obtain ⟨rfl, _⟩ := hi
          obtain ⟨ty, h1, h2⟩ := tcAs_ok hty
          rw [typeAt_col]
          refine alike_type ?_ h2 (ev_type hr.2.1 hr.2.2 (hx x (by simp)).1 (hx x (by simp)).2.1 h1 he)
          have hm : t.cols.getD k ([], 0) ∈ t.cols := by
            rw [List.getD_eq_getElem?_getD, List.getElem?_eq_getElem hk]; exact List.getElem_mem hk
          have := (ht.cols _ hm).1
          omega
        · exact ho.2.2 i
theorem updGo_ok {t : Tab} (ht : okTab t) {c : T} {ks : List Nat} {ts : List T} (hx : ∀ x ∈ ts, okT x) (hs : SetsOk t ks ts) : ∀ {rows : List (List V)} {z : List (List V) × Nat}, (∀ r ∈ rows, RowFor (scope t.name t) r) → updGo (scope t.name t) c ks ts rows = .ok z → (∀ r ∈ z.1, RowFor (scope t.name t) r) ∧ z.1.length = rows.length ∧ z.2 ≤ rows.length
  | [], z, _, h => by simp [updGo] at h; subst h; simp
  | r :: rs, z, hr, h => by
    unfold updGo at h
    cases he : ev (scope t.name t) r c with
    | error e => rw [he] at h; cases h
    | ok v =>
      rw [he] at h
      simp only at h
      split at h
      · cases h1 : setRow (scope t.name t) r r ks ts with
        | error e => rw [h1] at h; cases h
        | ok r' =>
          rw [h1] at h
          simp only at h
          cases h2 : updGo (scope t.name t) c ks ts rs with
          | error e => rw [h2] at h; cases h
          | ok y =>
            rw [h2] at h
            simp at h; subst h
            obtain ⟨a, b, d⟩ := updGo_ok ht hx hs (fun r h => hr r (by simp [h])) h2
            refine ⟨fun q hq => ?_, by simp [b], by simp; omega⟩
            rcases List.mem_cons.1 hq with rfl | hq
            · exact setRow_ok ht (hr r (by simp)) hx hs (hr r (by simp)) h1
            · exact a q hq
      · cases h2 : updGo (scope t.name t) c ks ts rs with
        | error e => rw [h2] at h; cases h
        | ok y =>
          rw [h2] at h
          simp at h; subst h
          obtain ⟨a, b, d⟩ := updGo_ok ht hx hs (fun r h => hr r (by simp [h])) h2
          refine ⟨fun q hq => ?_, by simp [b], by simp; omega⟩
          rcases List.mem_cons.1 hq with rfl | hq
          · exact hr q (by simp)
          · exact a q hq
theorem doSelect_db (db : DB) (s : St) : (doSelect db s).1 = db := by
  unfold doSelect
  repeat' split
  all_goals rfl
theorem doSt_ok {db : DB} {s : St} (hs : okSt s) (h : okDB db) : okDB (doSt db s).1 := by
    unfold doSt
    split
    · rename_i hk
      unfold doCreate
      split
      · exact h
      split
      · exact h
      · rename_i h6
        refine ⟨by have := h.1; simp; omega, fun t ht => ?_⟩
        rcases List.mem_append.1 ht with ht | ht
        · exact h.2 t ht
        · simp at ht; subst ht
          obtain ⟨h5, hi⟩ := hs.create hk
          refine ⟨by simpa using h5, ?_, fun c hc => ?_, hs.tname, by simp, by simp⟩
          · have := hs.some_ (.inr hk)
            cases hit : s.items with
            | nil => exact absurd hit this
            | cons a l => simp
          · simp at hc
            obtain ⟨i, hi', rfl⟩ := hc
            exact hi i hi'
    rename_i hk99
    split
    · unfold doInsert
      cases ht : tabAt db s.table with
      | none => exact h
      | some i =>
        have hi := tabAt_lt ht
        have htab := h.2 _ (tabD_mem hi)
        simp only
        split
        · exact h
        · rename_i hlen
          simp only [ne_eq, Decidable.not_not] at hlen
          split
          · exact h
          · rename_i htc
            split
            · exact h
            · rename_i row hev
              split
              · exact h
              · rename_i h25
                have htr : ∀ t ∈ s.items.map (·.tree), okT t := by
                  intro t ht
                  simp at ht
                  obtain ⟨j, hj, rfl⟩ := ht
                  exact hs.items hk99 j hj
                refine h.set hi (by have := htab.nrows; simp; omega) (fun r hr => ?_)
                rcases List.mem_append.1 hr with hr | hr
                · exact htab.rows r hr
                · simp at hr; subst hr
                  obtain ⟨a, b⟩ := evAll_ok RowFor.nil htr hev
                  refine ⟨by rw [a, scope_len]; simpa using hlen, b, fun j => ?_⟩
                  rw [typeAt_col]
                  exact row_fits htr (fun c hc => by have := (htab.cols c hc).1; omega) (by simpa using hlen) htc hev j
    split
    · unfold doDelete
      cases ht : tabAt db s.table with
      | none => exact h
      | some i =>
        have hi := tabAt_lt ht
        have htab := h.2 _ (tabD_mem hi)
        simp only
        split
        · exact h
        · split
          · exact h
          · rename_i z hz
            obtain ⟨a, b, c⟩ := sift_ok hz
            exact h.set hi (by have := htab.nrows; simp; omega) (fun r hr => htab.rows r (b r hr))
    split
    · unfold doUpdate
      cases ht : tabAt db s.table with
      | none => exact h
      | some i =>
        have hi := tabAt_lt ht
        have htab := h.2 _ (tabD_mem hi)
        simp only
        split
        · exact h
        · rename_i ks hks
          obtain ⟨m, hm, hsets⟩ := setsGo_ok hks
          simp at hm; subst hm
          split
          · exact h
          · split
            · exact h
            · rename_i z hz
              have htr : ∀ t ∈ s.items.map (·.tree), okT t := by
                intro t ht
                simp at ht
                obtain ⟨j, hj, rfl⟩ := ht
                exact hs.items hk99 j hj
              obtain ⟨a, b, c⟩ := updGo_ok htab htr hsets (fun r hr => (htab.rows r hr).src) hz
              exact h.set hi (by have := htab.nrows; simp; omega) (fun r hr => (a r hr).unsrc)
    · rw [doSelect_db]; exact h
end Pl
end Go.Proofs.YtojdpjpldokjmaaGreatDoor
/- Numbers as text; INSERT of pieces: plainly. Nothing of the program in it. -/
namespace Go.Proofs.YtojdpjpldokjmaaGreatDoor
namespace Pl
open Go.Deep
set_option linter.unusedVariables false
set_option linter.unusedSimpArgs false

theorem worth_app : ∀ (a b : List UInt8) (m : Int), worth m (a ++ b) = worth (worth m a) b
  | [], _, _ => rfl
  | c :: a, b, m => worth_app a b _
theorem ofNat_toNat {k : Nat} (h : k < 10) : (UInt8.ofNat (48 + k)).toNat = 48 + k := by
  rw [UInt8.toNat_ofNat']; omega
theorem dig_of {k : Nat} (h : k < 10) : isDig (UInt8.ofNat (48 + k)) = true := by
  rw [isDig_iff, ofNat_toNat h]; omega
theorem decGo_app : ∀ (f n : Nat) (acc : List UInt8), 1 ≤ f → n < 10 ^ f → ∃ ds, decGo f n acc = ds ++ acc ∧ ds ≠ [] ∧ (∀ c ∈ ds, isDig c = true) ∧ worth 0 ds = n ∧ ds.length ≤ f
  | 0, n, acc, hf, h => by omega
  | f + 1, n, acc, _, h => by
    unfold decGo
    split
    · rename_i h10
      refine ⟨[UInt8.ofNat (48 + n)], rfl, by simp, ?_, ?_, by simp⟩
      · intro c hc; rw [List.mem_singleton] at hc; subst hc; exact dig_of h10
      · show (10 * 0 + (((UInt8.ofNat (48 + n)).toNat : Int) - 48)) = n
        rw [ofNat_toNat h10]; omega
    · have hm : n % 10 < 10 := Nat.mod_lt _ (by decide)
      have hf : 1 ≤ f := by
        cases f with
        | zero => simp at h; omega
        | succ f => omega
      obtain ⟨ds, h1, h2, h3, h4, h5⟩ := decGo_app f (n / 10) (UInt8.ofNat (48 + n % 10) :: acc) hf (by rw [Nat.pow_succ] at h; exact Nat.div_lt_of_lt_mul (by rw [Nat.mul_comm]; exact h))
      refine ⟨ds ++ [UInt8.ofNat (48 + n % 10)], by rw [h1]; simp, by simp, ?_, ?_, by simp; omega⟩
      · intro c hc
        rcases List.mem_append.1 hc with hc | hc
        · exact h3 c hc
        · rw [List.mem_singleton] at hc; subst hc; exact dig_of hm
      · rw [worth_app, h4]
        show (10 * ((n / 10 : Nat) : Int) + (((UInt8.ofNat (48 + n % 10)).toNat : Int) - 48)) = n
        rw [ofNat_toNat hm]; omega
theorem dec_ok {n : Nat} (h : n < 10 ^ 20) : dec n ≠ [] ∧ (∀ c ∈ dec n, isDig c = true) ∧ worth 0 (dec n) = n ∧ (dec n).length ≤ 20 := by
  obtain ⟨ds, h1, h2, h3, h4, h5⟩ := decGo_app 20 n [] (by decide) h
  have : dec n = ds := by unfold dec; rw [h1]; simp
  rw [this]
  exact ⟨h2, h3, h4, h5⟩
theorem sep_dig {y : List UInt8} (h : Sep y) : y.takeWhile isDig = [] ∧ y.dropWhile isDig = y := sep_stop h rfl rfl rfl rfl rfl
theorem Cl.num {n : Nat} (h : n ≤ 9223372036854775807) : Cl (dec n) [⟨2, n, []⟩] := fun y hy => by
  obtain ⟨h1, h2, h3, _⟩ := dec_ok (n := n) (by omega)
  refine toks_num h2 h1 ?_ (show (2 : Nat) ≠ 99 by decide) (sep_dig hy)
  unfold numTok
  rw [h3, if_neg (by omega)]
theorem Cl.neg {x : List UInt8} {ts : List Tok} (h : Cl x ts) : Cl (45 :: x) (kt 16 :: ts) := fun y hy => by
  show toks (45 :: (x ++ y)) = _
  rw [toks_minus, h y hy]; rfl
theorem Cl.minus {x z : List UInt8} {ts us : List Tok} (h : Cl x ts) (k : Cl z us) : Cl (x ++ ([32, 45, 32] ++ z)) (ts ++ ([kt 16] ++ us)) :=
  Cl.mid h k (sep_cons (.inl rfl)) (fun z => by
    show toks (32 :: 45 :: 32 :: z) = _
    rw [toks_space, toks_minus, toks_space]; rfl) (by simp)

/-- A number as a value of a statement: its text, tokens, tree. -/
def numP (n : Int) : List UInt8 := if n = -9223372036854775808 then [40, 45, 57, 50, 50, 51, 51, 55, 50, 48, 51, 54, 56, 53, 52, 55, 55, 53, 56, 48, 55, 32, 45, 32, 49, 41] else if n < 0 then 45 :: dec (-n).toNat else dec n.toNat
def numK (n : Int) : List Tok := if n = -9223372036854775808 then [kt 7, kt 16, ⟨2, 9223372036854775807, []⟩, kt 16, ⟨2, 1, []⟩, kt 8] else if n < 0 then [kt 16, ⟨2, -n, []⟩] else [⟨2, n, []⟩]
def numT (n : Int) : T := if n = -9223372036854775808 then tTwo 7 (tOne 2 (tLit 1 9223372036854775807 [])) (tLit 1 1 []) else if n < 0 then tOne 2 (tLit 1 (-n) []) else tLit 1 n []
abbrev in64 (n : Int) : Prop := -9223372036854775808 ≤ n ∧ n ≤ 9223372036854775807
theorem numP_cl {n : Int} (h : in64 n) : Cl (numP n) (numK n) := by
  obtain ⟨h1, h2⟩ := h
  unfold numP numK
  split
  · have e1 : ([57, 50, 50, 51, 51, 55, 50, 48, 51, 54, 56, 53, 52, 55, 55, 53, 56, 48, 55] : List UInt8) = dec 9223372036854775807 := by decide +kernel
    have := ((Cl.neg (Cl.num (n := 9223372036854775807) (by decide))).minus (Cl.num (n := 1) (by decide))).brackets
    rw [← e1] at this
    exact this
  split
  · have := Cl.neg (Cl.num (n := (-n).toNat) (by omega))
    rw [show (((-n).toNat : Nat) : Int) = -n by omega] at this
    exact this
  · have := Cl.num (n := n.toNat) (by omega)
    rw [show ((n.toNat : Nat) : Int) = n by omega] at this
    exact this
/-- A difference whose left part has a sign ahead. -/
theorem Sg.vNegSub {n : Nat} {ts us : List Tok} {x y : T} (h : Sg n ts x) (k : Sg n us y) : Vl (n + 1) (kt 16 :: ts ++ kt 16 :: us) (tTwo 7 (tOne 2 x) y) := fun m rest hm he => by
  obtain ⟨h1, h2, h3, h4, h5, ha, ho⟩ := endK_none he
  cases m with
  | zero => omega
  | succ m =>
    rw [List.append_assoc]
    refine value_comp (by show (16 : Nat) ≠ 43; decide) ?_ he
    show pComp _ _ = _
    unfold pComp
    have hsg : (lv (m + 1)).signed (kt 16 :: ts ++ (kt 16 :: us ++ rest)) = some (tOne 2 x, kt 16 :: (us ++ rest)) := by
      show pSigned (lv m).signed _ _ = _
      unfold pSigned
      rw [if_pos (show (hd (kt 16 :: ts ++ (kt 16 :: us ++ rest))).k = 16 from rfl), show (kt 16 :: ts ++ (kt 16 :: us ++ rest)).tail = ts ++ (kt 16 :: (us ++ rest)) from rfl, h.signed (m := m) (rest := kt 16 :: (us ++ rest)) (by omega) (show (16 : Nat) ≠ 10 by decide)]
    have hsum : (lv (m + 1)).sum (kt 16 :: ts ++ (kt 16 :: us ++ rest)) = some (tTwo 7 (tOne 2 x) y, rest) :=
      chained_one (t := kt 16) (us := us ++ rest) (chained_stop hsg rfl) rfl (k.prod (by omega) h1 h2) h3
    rw [hsum]; simp only; rw [h4]; simp only; rw [if_neg h5]
theorem numK_vl (n : Int) : Vl 2 (numK n) (numT n) := by
  unfold numK numT
  split
  · exact ((Sg.num 9223372036854775807).vNegSub (Sg.num 1)).paren.value
  split
  · exact ((Sg.num (-n)).vNeg).mono (by decide)
  · exact ((Sg.num n).value).mono (by decide)
theorem numT_ev {n : Int} (h : in64 n) (cols : List Col) (row : List V) : ev cols row (numT n) = .ok ⟨1, n, []⟩ := by
  obtain ⟨h1, h2⟩ := h
  unfold numT
  split
  · rename_i e; subst e; rfl
  split
  · simp [tOne, tLit, ev, litOf, ap1, neg, V.miss, ranged]
    omega
  · rfl
theorem numT_tc (n : Int) (cols : List Col) : tc cols (numT n) = .ok 1 := by
  unfold numT
  split
  · rfl
  split
  · rfl
  · rfl
theorem numT_ok {n : Int} (h : in64 n) : okT (numT n) := by
  obtain ⟨h1, h2⟩ := h
  have hl : ∀ m : Int, 0 ≤ m → m ≤ 9223372036854775807 → okT (tLit 1 m []) := fun m a b => by
    obtain ⟨x, y, z⟩ := lit_good (kind := 1) (n := m) (s := []) (.inr (.inl ⟨rfl, rfl, a, b⟩))
    exact ⟨x, y, by rw [z]; decide⟩
  unfold numT
  split
  · have a := hl 9223372036854775807 (by decide) (by decide)
    have b := hl 1 (by decide) (by decide)
    obtain ⟨c, d⟩ := one_good (o := 2) (by decide) (by decide) a.1 a.2.1
    obtain ⟨e, f⟩ := two_good (o := 7) (by decide) (by decide) c b.1 d b.2.1
    exact ⟨e, f, by decide⟩
  split
  · have a := hl (-n) (by omega) (by omega)
    obtain ⟨c, d⟩ := one_good (o := 2) (by decide) (by decide) a.1 a.2.1
    exact ⟨c, d, by simp [sz, tOne, tLit]⟩
  · exact hl n (by omega) (by omega)

/-- Lists of pieces. -/
structure Pc where
  x : List UInt8
  ts : List Tok
  t : T
def Pc.ok (p : Pc) : Prop := Cl p.x p.ts ∧ Vl 20 p.ts p.t ∧ p.ts ≠ []
def joinT : List (List Tok) → List Tok
  | [] => []
  | [a] => a
  | a :: b :: r => a ++ kt 9 :: joinT (b :: r)
theorem toks_join : ∀ {ps : List Pc} {y : List UInt8}, (∀ p ∈ ps, p.ok) → Sep y → toks (sepJoin [44, 32] (ps.map (·.x)) ++ y) = joinT (ps.map (·.ts)) ++ toks y
  | [], y, _, _ => rfl
  | [p], y, h, hy => (h p (by simp)).1 y hy
  | p :: q :: r, y, h, hy => by
    show toks ((p.x ++ [44, 32] ++ sepJoin [44, 32] ((q :: r).map (·.x))) ++ y) = (p.ts ++ kt 9 :: joinT ((q :: r).map (·.ts))) ++ toks y
    rw [List.append_assoc, List.append_assoc, show [44, 32] ++ (sepJoin [44, 32] ((q :: r).map (·.x)) ++ y) = 44 :: 32 :: (sepJoin [44, 32] ((q :: r).map (·.x)) ++ y) from rfl, (h p (by simp)).1 _ (sep_cons (.inr (.inr (.inl rfl))))]
    rw [toks_comma, toks_space, toks_join (fun a ha => h a (by simp at ha ⊢; exact .inr ha)) hy]
    simp
def itV (t : T) : It := ⟨[], [], 0, t, false⟩
theorem more_join : ∀ {ps : List Pc} {rest : List Tok} {acc : List It} {f : Nat}, (∀ p ∈ ps, p.ok) → ps ≠ [] → (hd rest).k = 8 → ps.length ≤ f → more iValue f acc (joinT (ps.map (·.ts)) ++ rest) = some (acc ++ ps.map (fun p => itV p.t), rest)
  | [], _, _, _, _, h, _, _ => absurd rfl h
  | [p], rest, acc, f, h, _, h8, hf => by
    cases f with
    | zero => simp at hf
    | succ f =>
      have hv := (h p (by simp)).2.1 20 rest (Nat.le_refl _) (by rw [h8]; rfl)
      have e : iValue (joinT ([p].map (·.ts)) ++ rest) = some (itV p.t, rest) := by
        unfold iValue
        show (match pVal 20 (p.ts ++ rest) with | none => none | some (x, r) => some (_, r)) = _
        rw [show pVal 20 (p.ts ++ rest) = some (p.t, rest) from hv]
        rfl
      unfold more
      rw [e]
      simp only
      rw [if_neg (by rw [h8]; decide)]
      rfl
  | p :: q :: r, rest, acc, f, h, _, h8, hf => by
    cases f with
    | zero => simp at hf
    | succ f =>
      have hv := (h p (by simp)).2.1 20 (kt 9 :: (joinT ((q :: r).map (·.ts)) ++ rest)) (Nat.le_refl _) rfl
      have e : iValue (joinT ((p :: q :: r).map (·.ts)) ++ rest) = some (itV p.t, kt 9 :: (joinT ((q :: r).map (·.ts)) ++ rest)) := by
        have e1 : joinT ((p :: q :: r).map (·.ts)) ++ rest = p.ts ++ kt 9 :: (joinT ((q :: r).map (·.ts)) ++ rest) := by simp [joinT]
        rw [e1]
        unfold iValue
        rw [show pVal 20 (p.ts ++ kt 9 :: (joinT ((q :: r).map (·.ts)) ++ rest)) = some (p.t, _) from hv]
        rfl
      unfold more
      rw [e]
      simp only
      rw [if_pos (show (hd (kt 9 :: (joinT ((q :: r).map (·.ts)) ++ rest))).k = 9 from rfl)]
      show more iValue f (acc ++ [itV p.t]) (joinT ((q :: r).map (·.ts)) ++ rest) = _
      rw [more_join (fun a ha => h a (by simp at ha ⊢; exact .inr ha)) (by simp) h8 (by simp at hf ⊢; omega)]
      simp
theorem joinT_len : ∀ {ps : List Pc}, (∀ p ∈ ps, p.ok) → ps.length ≤ (joinT (ps.map (·.ts))).length
  | [], _ => by simp [joinT]
  | [p], h => by
    have := (h p (by simp)).2.2
    cases hp : p.ts with
    | nil => exact absurd hp this
    | cons => simp [joinT, hp]
  | p :: q :: r, h => by
    have := joinT_len (ps := q :: r) (fun a ha => h a (by simp at ha ⊢; exact .inr ha))
    simp [joinT] at this ⊢
    omega
/-- A name that is no keyword. -/
structure NameOk (w : List UInt8) : Prop where
  all : w.all isLD = true
  head : isLet (w.headD 0) = true
  tok : wordTok w = ⟨1, 0, w⟩
theorem NameOk.cl {w : List UInt8} (h : NameOk w) : Cl w [⟨1, 0, w⟩] := Cl.word h.all h.head h.tok (show (1 : Nat) ≠ 99 by decide)
def insText (name : List UInt8) (xs : List (List UInt8)) (tail : List UInt8) : List UInt8 := [73, 78, 83, 69, 82, 84, 32, 73, 78, 84, 79, 32] ++ (name ++ ([32, 86, 65, 76, 85, 69, 83, 32, 40] ++ (sepJoin [44, 32] xs ++ 41 :: tail)))
theorem cl_kw (w : List UInt8) (k : Nat) (hw : w.all isLD = true) (hl : isLet (w.headD 0) = true) (ht : wordTok w = kt k) (h9 : k ≠ 99) : Cl w [kt k] := Cl.word hw hl ht h9
theorem ins_toks {name : List UInt8} (hn : NameOk name) {ps : List Pc} (hp : ∀ p ∈ ps, p.ok) {tail : List UInt8} (ht : toks tail = []) : toks (insText name (ps.map (·.x)) tail) = kt 22 :: kt 23 :: ⟨1, 0, name⟩ :: kt 24 :: kt 7 :: (joinT (ps.map (·.ts)) ++ [kt 8]) := by
  have k1 := cl_kw [73, 78, 83, 69, 82, 84] 22 rfl rfl (by kernel_rfl) (by decide)
  have k2 := cl_kw [73, 78, 84, 79] 23 rfl rfl (by kernel_rfl) (by decide)
  have k3 := cl_kw [86, 65, 76, 85, 69, 83] 24 rfl rfl (by kernel_rfl) (by decide)
  unfold insText
  show toks ([73, 78, 83, 69, 82, 84] ++ 32 :: ([73, 78, 84, 79] ++ 32 :: (name ++ 32 :: ([86, 65, 76, 85, 69, 83] ++ 32 :: 40 :: (sepJoin [44, 32] (ps.map (·.x)) ++ 41 :: tail))))) = _
  rw [k1 _ (sep_cons (.inl rfl)), toks_space, k2 _ (sep_cons (.inl rfl)), toks_space, hn.cl _ (sep_cons (.inl rfl)), toks_space, k3 _ (sep_cons (.inl rfl)), toks_space, toks_open, toks_join hp (sep_cons (.inr (.inl rfl))), toks_close, ht]
  simp
theorem pInsert_of {ts r : List Tok} {l : List It} (h1 : (hd ts).k = 23) (h2 : (hd ts.tail).k = 1) (h3 : (hd ts.tail.tail).k = 24) (h4 : inOpen iValue ts.tail.tail.tail = some (l, r)) : pInsert ts = some (st0 105 (hd ts.tail).s l .nil, r) := by
  unfold pInsert
  rw [if_pos h1, if_pos h2, if_pos h3, h4]
theorem ins_parse {name : List UInt8} (hn : NameOk name) {ps : List Pc} (hp : ∀ p ∈ ps, p.ok) (hne : ps ≠ []) {tail : List UInt8} (ht : toks tail = []) (hl : (insText name (ps.map (·.x)) tail).length ≤ 600) : pParse (insText name (ps.map (·.x)) tail) = some (st0 105 name (ps.map (fun p => itV p.t)) .nil) := by
  unfold pParse
  rw [if_neg (by omega), ins_toks hn hp ht]
  have e : inOpen iValue (kt 7 :: (joinT (ps.map (·.ts)) ++ [kt 8])) = some (ps.map (fun p => itV p.t), []) := by
    unfold inOpen
    rw [if_pos (show (hd (kt 7 :: (joinT (ps.map (·.ts)) ++ [kt 8]))).k = 7 from rfl)]
    show (match listed iValue (joinT (ps.map (·.ts)) ++ [kt 8]) with | none => none | some (l, r) => if (hd r).k = 8 then some (l, r.tail) else none) = _
    unfold listed
    rw [more_join hp hne rfl (by have := joinT_len hp; simp; omega)]
    rfl
  have e2 : pStatement (kt 22 :: kt 23 :: ⟨1, 0, name⟩ :: kt 24 :: kt 7 :: (joinT (ps.map (·.ts)) ++ [kt 8])) = some (st0 105 name (ps.map (fun p => itV p.t)) .nil, []) := by
    unfold pStatement
    have q : (hd (kt 22 :: kt 23 :: ⟨1, 0, name⟩ :: kt 24 :: kt 7 :: (joinT (ps.map (·.ts)) ++ [kt 8]))).k = 22 := rfl
    rw [if_neg (by rw [q]; decide), if_pos q]
    show pInsert (kt 23 :: ⟨1, 0, name⟩ :: kt 24 :: kt 7 :: (joinT (ps.map (·.ts)) ++ [kt 8])) = _
    exact pInsert_of (ts := kt 23 :: ⟨1, 0, name⟩ :: kt 24 :: kt 7 :: (joinT (ps.map (·.ts)) ++ [kt 8])) rfl rfl rfl e
  rw [e2]
  rfl
end Pl
end Go.Proofs.YtojdpjpldokjmaaGreatDoor
