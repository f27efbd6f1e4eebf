/- Plain functions on bytes and tokens: nothing of the program in it. -/
import Derived.Below
namespace Go.Proofs.YtojdpjpldokjmaaGreatDoor
namespace Pl

def isLet (c : UInt8) : Bool := (decide (97 ≤ c.toNat) && decide (c.toNat ≤ 122)) || (decide (65 ≤ c.toNat) && decide (c.toNat ≤ 90)) || c.toNat == 95
def isDig (c : UInt8) : Bool := decide (48 ≤ c.toNat) && decide (c.toNat ≤ 57)
def isLD (c : UInt8) : Bool := isLet c || isDig c
def isBlank (c : UInt8) : Bool := c.toNat == 32 || c.toNat == 9 || c.toNat == 10

theorem isLet_t {c : UInt8} (h : (97 ≤ c.toNat ∧ c.toNat ≤ 122) ∨ (65 ≤ c.toNat ∧ c.toNat ≤ 90) ∨ c.toNat = 95) : isLet c = true := by
  unfold isLet; simp; omega
theorem isLet_f {c : UInt8} (h : ¬ ((97 ≤ c.toNat ∧ c.toNat ≤ 122) ∨ (65 ≤ c.toNat ∧ c.toNat ≤ 90) ∨ c.toNat = 95)) : isLet c = false := by
  rw [Bool.eq_false_iff]; unfold isLet; simp; omega
theorem isDig_t {c : UInt8} (h : 48 ≤ c.toNat ∧ c.toNat ≤ 57) : isDig c = true := by
  unfold isDig; simp; omega
theorem isLet_iff (c : UInt8) : isLet c = true ↔ ((97 ≤ c.toNat ∧ c.toNat ≤ 122) ∨ (65 ≤ c.toNat ∧ c.toNat ≤ 90) ∨ c.toNat = 95) :=
  ⟨fun h => by unfold isLet at h; simp at h; omega, isLet_t⟩
theorem isDig_iff (c : UInt8) : isDig c = true ↔ (48 ≤ c.toNat ∧ c.toNat ≤ 57) :=
  ⟨fun h => by unfold isDig at h; simp at h; omega, isDig_t⟩
end Pl
end Go.Proofs.YtojdpjpldokjmaaGreatDoor
