/- Bytes and stretches of them; frames of cells. -/
import Derived.Test.YtojdpjpldokjmaaGreatDoorJ01
import Derived.Test.YtojdpjpldokjmaaGreatDoorJ02
namespace Go.Proofs.YtojdpjpldokjmaaGreatDoor
open Go.RowKit

theorem take_snoc (s : ByteArray) (k : Nat) (h : k < s.size) : s.data.toList.take (k + 1) = s.data.toList.take k ++ [s[k]] := by
  rw [List.take_succ_eq_append_getElem (by simpa using h)]; rfl
theorem bcell {W w1 : World} (hb : Below W.heap.size W w1) : (∀ b o, b < W.heap.size → w1.cell? ⟨b, o, none⟩ = W.cell? ⟨b, o, none⟩) ∧ (∀ b o, b < W.heap.size → w1.frozen? ⟨b, o, none⟩ = W.frozen? ⟨b, o, none⟩) :=
  ⟨fun b o h => hb.cell (p := ⟨b, o, none⟩) h, fun b o h => hb.frozen (p := ⟨b, o, none⟩) h⟩

theorem byte39 {c : UInt8} (h : c.toNat = 39) : c = 39 := by
  apply UInt8.toNat_inj.1
  rw [h]; rfl
theorem ext_list (s : ByteArray) (a b : Nat) : (s.extract a b).data.toList = (s.data.toList.take b).drop a := by
  rw [ByteArray.data_extract, Array.toList_extract, List.extract_eq_take_drop, List.drop_take]
theorem ext_snoc (s : ByteArray) (a b : Nat) (hab : a ≤ b) (hb : b < s.size) : (s.extract a (b + 1)).data.toList = (s.extract a b).data.toList ++ [s[b]] := by
  rw [ext_list, ext_list, take_snoc s b hb, List.drop_append_of_le_length (by simp; omega)]
theorem ext_nil (s : ByteArray) (a : Nat) : (s.extract a a).data.toList = [] := by
  rw [ext_list]; exact List.drop_eq_nil_of_le (by simp; omega)
/-- Where a word is read: from k on; e bytes on of it so far. -/
def spanAt (p : UInt8 → Bool) (s : ByteArray) (k e : Nat) : Prop :=
  (s.extract k e).data.toList ++ (Pl.from_ s e).takeWhile p = (Pl.from_ s k).takeWhile p ∧ (Pl.from_ s e).dropWhile p = (Pl.from_ s k).dropWhile p
theorem span_start (p : UInt8 → Bool) (s : ByteArray) (k : Nat) : spanAt p s k k := ⟨by rw [ext_nil]; rfl, rfl⟩
theorem span_more {p : UInt8 → Bool} {s : ByteArray} {k e : Nat} (hk : k ≤ e) (he : e < s.size) (h : spanAt p s k e) (hp : p s[e] = true) : spanAt p s k (e + 1) := by
  obtain ⟨h1, h2⟩ := h
  rw [Pl.from_lt s e he, List.takeWhile_cons_of_pos hp] at h1
  rw [Pl.from_lt s e he, List.dropWhile_cons_of_pos hp] at h2
  exact ⟨by rw [ext_snoc s k e hk he, ← h1]; simp, h2⟩
theorem span_end {p : UInt8 → Bool} {s : ByteArray} {k e : Nat} (h : spanAt p s k e) (hr : ¬ e < s.size ∨ ∃ h : e < s.size, p s[e] = false) :
    (s.extract k e).data.toList = (Pl.from_ s k).takeWhile p ∧ Pl.from_ s e = (Pl.from_ s k).dropWhile p := by
  obtain ⟨h1, h2⟩ := h
  rcases hr with hr | ⟨he, hp⟩
  · rw [Pl.from_ge s e (by omega)] at h1 h2
    refine ⟨by simpa using h1, ?_⟩
    rw [Pl.from_ge s e (by omega)]; exact h2
  · rw [Pl.from_lt s e he] at h1 h2
    rw [List.takeWhile_cons_of_neg (by simp [hp])] at h1
    rw [List.dropWhile_cons_of_neg (by simp [hp])] at h2
    refine ⟨by simpa using h1, ?_⟩
    rw [Pl.from_lt s e he]; exact h2


theorem below_box {w w1 : World} (hb : Below w.heap.size w w1) (a b c : Value) : Below w.heap.size w (((w1.setCell ⟨w.heap.size, 0, none⟩ a).setCell ⟨w.heap.size, 1, none⟩ b).setCell ⟨w.heap.size, 2, none⟩ c) :=
  ((hb.setCell (Nat.le_refl _) _).setCell (Nat.le_refl _) _).setCell (Nat.le_refl _) _
end Go.Proofs.YtojdpjpldokjmaaGreatDoor
