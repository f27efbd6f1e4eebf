/- Tokens, plainly: what both lexers make of a text. Nothing of the program in it. -/
import Derived.Test.YtojdpjpldokjmaaGreatDoorJ00
namespace Go.Proofs.YtojdpjpldokjmaaGreatDoor
namespace Pl

/-- A token: its kind (0 the end, 1 a name, 2 a number, 3 a text, 4 to 19 signs, 20 to 50 keywords, 99 what is none), the worth of a number, the bytes of a name or a text. -/
structure Tok where
  k : Nat
  n : Int
  s : List UInt8

def bad : Tok := ⟨99, 0, []⟩
def fin : Tok := ⟨0, 0, []⟩

/-- The signs and keywords by their kinds. -/
def spells : List (List UInt8) := [[], [], [], [],
  [60, 62], [60, 61], [62, 61], [40], [41], [44], [46], [59], [61], [60], [62], [43], [45], [42], [47], [37],
  [67, 82, 69, 65, 84, 69], [84, 65, 66, 76, 69], [73, 78, 83, 69, 82, 84], [73, 78, 84, 79], [86, 65, 76, 85, 69, 83], [68, 69, 76, 69, 84, 69], [70, 82, 79, 77], [87, 72, 69, 82, 69],
  [85, 80, 68, 65, 84, 69], [83, 69, 84], [83, 69, 76, 69, 67, 84], [68, 73, 83, 84, 73, 78, 67, 84], [65, 83], [76, 69, 70, 84], [74, 79, 73, 78], [79, 78], [79, 82, 68, 69, 82], [66, 89],
  [68, 69, 83, 67], [76, 73, 77, 73, 84], [79, 70, 70, 83, 69, 84], [65, 78, 68], [79, 82], [78, 79, 84], [73, 83], [78, 85, 76, 76], [84, 82, 85, 69], [70, 65, 76, 83, 69], [73, 78, 84],
  [84, 69, 88, 84], [66, 79, 79, 76]]
def spell (k : Nat) : List UInt8 := spells.getD k []

def up (c : UInt8) : UInt8 := if 97 ≤ c.toNat ∧ c.toNat ≤ 122 then UInt8.ofNat (c.toNat - 32) else c

/-- The first i from 0 on, below n, whose keyword is g. -/
def kwFrom (g : List UInt8) (i : Nat) : Nat → Option Nat
  | 0 => none
  | n + 1 => if spell (20 + i) = g then some i else kwFrom g (i + 1) n
def kwOf (g : List UInt8) : Option Nat := kwFrom g 0 31

theorem kwFrom_some {g : List UInt8} : ∀ {n i j : Nat}, kwFrom g i n = some j → i ≤ j ∧ j < i + n ∧ spell (20 + j) = g
  | 0, _, _, h => by simp [kwFrom] at h
  | n + 1, i, j, h => by
    unfold kwFrom at h
    split at h
    · rename_i hs; simp at h; subst h; exact ⟨Nat.le_refl _, by omega, hs⟩
    · have := kwFrom_some h; exact ⟨by omega, by omega, this.2.2⟩
theorem kwFrom_none {g : List UInt8} : ∀ {n i : Nat}, (∀ j, i ≤ j → j < i + n → spell (20 + j) ≠ g) → kwFrom g i n = none
  | 0, _, _ => rfl
  | n + 1, i, h => by
    unfold kwFrom
    rw [if_neg (h i (Nat.le_refl _) (by omega))]
    exact kwFrom_none (fun j hj hl => h j (by omega) (by omega))
theorem kwFrom_hit {g : List UInt8} : ∀ {n i k : Nat}, i ≤ k → k < i + n → (∀ j, i ≤ j → j < k → spell (20 + j) ≠ g) → spell (20 + k) = g → kwFrom g i n = some k
  | 0, _, _, h1, h2, _, _ => by omega
  | n + 1, i, k, h1, h2, hno, hs => by
    unfold kwFrom
    by_cases e : i = k
    · subst e; rw [if_pos hs]
    · rw [if_neg (hno i (Nat.le_refl _) (by omega))]
      exact kwFrom_hit (by omega) (by omega) (fun j hj hl => hno j (by omega) hl) hs
/-- A word's token. -/
def wordTok (w : List UInt8) : Tok := match kwOf (w.map up) with
  | some i => ⟨20 + i, 0, []⟩
  | none => if 10 < w.length then bad else ⟨1, 0, w⟩

/-- The worth of digits behind a number. -/
def worth : Int → List UInt8 → Int
  | n, [] => n
  | n, c :: r => worth (10 * n + (c.toNat - 48)) r
def numTok (l : List UInt8) : Tok := if worth 0 l > 9223372036854775807 then bad else ⟨2, worth 0 l, []⟩

theorem worth_ge : ∀ (ds : List UInt8) (n : Int), 0 ≤ n → (∀ c, c ∈ ds → isDig c = true) → n ≤ worth n ds
  | [], n, _, _ => Int.le_refl n
  | c :: r, n, hn, h => by
    have hc := (isDig_iff c).1 (h c (by simp))
    have := worth_ge r (10 * n + (c.toNat - 48)) (by omega) (fun d hd => h d (by simp [hd]))
    show n ≤ worth (10 * n + (c.toNat - 48)) r
    omega
theorem mem_tw {p : UInt8 → Bool} : ∀ {l : List UInt8} {c : UInt8}, c ∈ l.takeWhile p → p c = true
  | d :: r, c, h => by
    rw [List.takeWhile_cons] at h
    split at h
    · rename_i hp
      rcases List.mem_cons.1 h with rfl | h
      · exact hp
      · exact mem_tw h
    · simp at h

/-- What is left of a text from a place on. -/
def from_ (s : ByteArray) (k : Nat) : List UInt8 := s.data.toList.drop k
theorem from_lt (s : ByteArray) (k : Nat) (h : k < s.size) : from_ s k = s[k] :: from_ s (k + 1) := by
  unfold from_
  rw [List.drop_eq_getElem_cons (by simpa using h)]; rfl
theorem from_ge (s : ByteArray) (k : Nat) (h : s.size ≤ k) : from_ s k = [] := by
  unfold from_
  exact List.drop_eq_nil_of_le (by simpa using h)
theorem from_zero (s : ByteArray) : from_ s 0 = s.data.toList := rfl

/-- A text's token, behind its first sign; what stands behind it. -/
def litTok : List UInt8 → List UInt8 → Tok × List UInt8
  | _, [] => (bad, [])
  | acc, [c] => if c.toNat = 39 then (if 40 < acc.length then bad else ⟨3, 0, acc⟩, []) else (bad, [])
  | acc, c :: d :: r =>
    if c.toNat = 39 then
      if d.toNat = 39 then litTok (acc ++ [c]) r else (if 40 < acc.length then bad else ⟨3, 0, acc⟩, d :: r)
    else litTok (acc ++ [c]) (d :: r)

/-- A sign of one byte: its kind; 99: none. -/
def oneSign (c : Nat) : Nat :=
  if c = 40 then 7 else if c = 41 then 8 else if c = 44 then 9 else if c = 46 then 10 else if c = 59 then 11 else if c = 61 then 12 else if c = 60 then 13 else
  if c = 62 then 14 else if c = 43 then 15 else if c = 45 then 16 else if c = 42 then 17 else if c = 47 then 18 else if c = 37 then 19 else 99
def twoSign (c d : Nat) : Nat :=
  if c = 60 ∧ d = 62 then 4 else if c = 60 ∧ d = 61 then 5 else if c = 62 ∧ d = 61 then 6 else 99
def signTok : List UInt8 → Tok × List UInt8
  | [] => (fin, [])
  | [c] => (⟨oneSign c.toNat, 0, []⟩, [])
  | c :: d :: r => if twoSign c.toNat d.toNat = 99 then (⟨oneSign c.toNat, 0, []⟩, d :: r) else (⟨twoSign c.toNat d.toNat, 0, []⟩, r)

/-- The token at the head of a text that begins with no blank; what stands behind it. -/
def headTok (l : List UInt8) : Tok × List UInt8 := match l with
  | [] => (fin, [])
  | c :: r =>
    if isLet c = true then (wordTok (l.takeWhile isLD), l.dropWhile isLD)
    else if isDig c = true then (numTok (l.takeWhile isDig), l.dropWhile isDig)
    else if c.toNat = 39 then litTok [] r
    else signTok l
def look (l : List UInt8) : Tok × List UInt8 := headTok (l.dropWhile isBlank)

end Pl
end Go.Proofs.YtojdpjpldokjmaaGreatDoor
