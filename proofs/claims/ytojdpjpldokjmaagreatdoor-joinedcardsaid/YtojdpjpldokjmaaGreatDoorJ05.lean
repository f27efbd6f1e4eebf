/- A text as a list of tokens. Nothing of the program in it. -/
import Derived.Test.YtojdpjpldokjmaaGreatDoorJ02
namespace Go.Proofs.YtojdpjpldokjmaaGreatDoor
namespace Pl

theorem dw_len (p : UInt8 → Bool) : ∀ l : List UInt8, (l.dropWhile p).length ≤ l.length
  | [] => by simp
  | c :: r => by
    rw [List.dropWhile_cons]
    split
    · have := dw_len p r; simp; omega
    · simp
theorem litTok_len : ∀ (acc l : List UInt8), (litTok acc l).2.length ≤ l.length
  | _, [] => by simp [litTok]
  | acc, [c] => by unfold litTok; split <;> simp
  | acc, c :: d :: r => by
    unfold litTok
    split
    · split
      · have := litTok_len (acc ++ [c]) r; simp; omega
      · simp
    · have := litTok_len (acc ++ [c]) (d :: r); simp at this ⊢; omega
theorem signTok_len : ∀ (l : List UInt8), l ≠ [] → (signTok l).2.length < l.length
  | [], h => absurd rfl h
  | [c], _ => by simp [signTok]
  | c :: d :: r, _ => by simp only [signTok]; split <;> simp <;> omega
theorem isLD_of_let {c : UInt8} (h : isLet c = true) : isLD c = true := by unfold isLD; simp [h]
theorem headTok_len : ∀ (l : List UInt8), l ≠ [] → (headTok l).2.length < l.length
  | [], h => absurd rfl h
  | c :: r, _ => by
    unfold headTok
    simp only
    split
    · rename_i h
      rw [List.dropWhile_cons_of_pos (isLD_of_let h)]
      have := dw_len isLD r; simp; omega
    · split
      · rename_i h
        rw [List.dropWhile_cons_of_pos h]
        have := dw_len isDig r; simp; omega
      · split
        · have := litTok_len [] r; simp; omega
        · exact signTok_len _ (by simp)
/-- A token that is not the end takes a byte at least. -/
theorem look_len (l : List UInt8) (h : (look l).1.k ≠ 0) : (look l).2.length < l.length := by
  unfold look at *
  have h1 := dw_len isBlank l
  by_cases e : l.dropWhile isBlank = []
  · rw [e] at h; exact absurd rfl h
  · have := headTok_len _ e; omega

/-- The tokens of a text, up to what is none. -/
def toksN : Nat → List UInt8 → List Tok
  | 0, _ => []
  | n + 1, l => if (look l).1.k = 0 then [] else if (look l).1.k = 99 then [bad] else (look l).1 :: toksN n (look l).2
def toks (l : List UInt8) : List Tok := toksN (l.length + 1) l
theorem toksN_eq : ∀ (n m : Nat) (l : List UInt8), l.length < n → l.length < m → toksN n l = toksN m l
  | 0, _, _, h, _ => by omega
  | _, 0, _, _, h => by omega
  | n + 1, m + 1, l, hn, hm => by
    unfold toksN
    by_cases h0 : (look l).1.k = 0
    · rw [if_pos h0, if_pos h0]
    · rw [if_neg h0, if_neg h0]
      by_cases h9 : (look l).1.k = 99
      · rw [if_pos h9, if_pos h9]
      · rw [if_neg h9, if_neg h9]
        have := look_len l h0
        rw [toksN_eq n m _ (by omega) (by omega)]
theorem toks_unfold (l : List UInt8) : toks l = if (look l).1.k = 0 then [] else if (look l).1.k = 99 then [bad] else (look l).1 :: toks (look l).2 := by
  unfold toks
  rw [toksN]
  by_cases h0 : (look l).1.k = 0
  · rw [if_pos h0, if_pos h0]
  · rw [if_neg h0, if_neg h0]
    by_cases h9 : (look l).1.k = 99
    · rw [if_pos h9, if_pos h9]
    · rw [if_neg h9, if_neg h9]
      have := look_len l h0
      rw [toksN_eq _ ((look l).2.length + 1) _ (by omega) (by omega)]

/-- The first token. -/
def hd (ts : List Tok) : Tok := ts.headD fin

/- Kinds: of whatever text, the token at its head is well made: its bytes and number stand only where they belong. -/
theorem wordTok_k (w : List UInt8) : (wordTok w).k = 1 ∨ (20 ≤ (wordTok w).k ∧ (wordTok w).k < 51) ∨ wordTok w = bad := by
  unfold wordTok
  split
  · rename_i i h
    have := kwFrom_some h
    right; left; simp; omega
  · split
    · right; right; rfl
    · left; rfl
theorem numTok_k (l : List UInt8) : (numTok l).k = 2 ∨ numTok l = bad := by
  unfold numTok; split
  · right; rfl
  · left; rfl
theorem litTok_k : ∀ (acc l : List UInt8), (litTok acc l).1.k = 3 ∨ (litTok acc l).1 = bad
  | _, [] => by right; simp [litTok]
  | acc, [c] => by
    unfold litTok; split
    · simp only; split
      · right; rfl
      · left; rfl
    · right; rfl
  | acc, c :: d :: r => by
    unfold litTok
    split
    · split
      · exact litTok_k _ _
      · simp only; split
        · right; rfl
        · left; rfl
    · exact litTok_k _ _
def signK (n : Nat) : Prop := (4 ≤ n ∧ n < 20) ∨ n = 99
theorem ite_signK {c : Prop} [Decidable c] {a b : Nat} (ha : signK a) (hb : signK b) : signK (if c then a else b) := by split <;> assumption
theorem oneSign_k (c : Nat) : signK (oneSign c) := by
  unfold oneSign
  repeat' (refine ite_signK (by unfold signK; omega) ?_)
  exact .inr rfl
theorem twoSign_k (c d : Nat) : signK (twoSign c d) := by
  unfold twoSign
  repeat' (refine ite_signK (by unfold signK; omega) ?_)
  exact .inr rfl
theorem signTok_k (l : List UInt8) : (signTok l).1 = fin ∨ (4 ≤ (signTok l).1.k ∧ (signTok l).1.k < 20) ∨ (signTok l).1 = bad := by
  match l with
  | [] => left; rfl
  | [c] =>
    rcases oneSign_k c.toNat with h | h
    · right; left; exact h
    · right; right; simp [signTok, h, bad]
  | c :: d :: r =>
    simp only [signTok]
    split
    · rcases oneSign_k c.toNat with h | h
      · right; left; exact h
      · right; right; simp [h, bad]
    · rename_i h9
      rcases twoSign_k c.toNat d.toNat with h | h
      · right; left; exact h
      · exact absurd h h9
theorem look_k (l : List UInt8) : (look l).1 = fin ∨ (1 ≤ (look l).1.k ∧ (look l).1.k < 51) ∨ (look l).1 = bad := by
  unfold look
  generalize l.dropWhile isBlank = m
  cases m with
  | nil => left; rfl
  | cons c r =>
    simp only [headTok]
    split
    · rcases wordTok_k (List.takeWhile isLD (c :: r)) with h | h | h
      · right; left; simp only; omega
      · right; left; simp only; omega
      · right; right; exact h
    · split
      · rcases numTok_k (List.takeWhile isDig (c :: r)) with h | h
        · right; left; simp only; omega
        · right; right; exact h
      · split
        · rcases litTok_k [] r with h | h
          · right; left; omega
          · right; right; exact h
        · rcases signTok_k (c :: r) with h | h | h
          · left; exact h
          · right; left; omega
          · right; right; exact h
/-- The tokens behind a token that is one. -/
theorem toks_cons (l : List UInt8) (h0 : (look l).1.k ≠ 0) (h9 : (look l).1.k ≠ 99) : toks l = (look l).1 :: toks (look l).2 := by
  rw [toks_unfold, if_neg h0, if_neg h9]
/-- Every token of a text is one, or the last is none. -/
theorem toks_mem : ∀ (n : Nat) (l : List UInt8) (t : Tok), l.length < n → t ∈ toks l → (1 ≤ t.k ∧ t.k < 51) ∨ t = bad
  | 0, _, _, h, _ => by omega
  | n + 1, l, t, hn, ht => by
    rw [toks_unfold] at ht
    rcases look_k l with h | h | h
    · rw [h, if_pos (show fin.k = 0 from rfl)] at ht; cases ht
    · rw [if_neg (by omega), if_neg (by omega)] at ht
      rcases List.mem_cons.1 ht with rfl | ht
      · left; exact h
      · exact toks_mem n (look l).2 t (by have := look_len l (by omega); omega) ht
    · rw [h, if_neg (by decide), if_pos (by decide)] at ht
      right; simpa using ht

end Pl
end Go.Proofs.YtojdpjpldokjmaaGreatDoor
