/- The keep Parted: the walk. -/
import Derived.Test.YtojdpjpldokjmaaGreatDoorJ11
import Derived.Test.YtojdpjpldokjmaaGreatDoorJ35
import Derived.Test.YtojdpjpldokjmaaGreatDoorJ36
namespace Go.Proofs.YtojdpjpldokjmaaGreatDoor
open Go.RowKit Go.Deep
set_option linter.unusedSimpArgs false
set_option linter.unusedVariables false

theorem cat2 (a b : List UInt8) : ({ data := a.toArray } : ByteArray) ++ { data := b.toArray } = ⟨(a ++ b).toArray⟩ := by rw [ByteArray.mk_append_mk]
theorem ok_sel (HS : StableM 19 600) {rt ru : List (List Pl.V)} (h1 : rt.length ≤ 19) (h2 : ru.length ≤ 19) {t : List UInt8} (h : ∃ s, Pl.pParse t = some s ∧ s.kind = 115 ∧ s.distinct = false ∧ s.sources.length = 1) : ExecOk (Pl.bTab rt ru) t := by
  obtain ⟨s, hp, hk, hd, hl⟩ := h
  refine execOk_sel1 HS hp (by rw [hk]; decide) hd hl (fun x hx => ?_)
  simp [Pl.bTab] at hx
  rcases hx with rfl | rfl
  · exact h1
  · exact h2
theorem MatO.at_ {w : World} {rows : List (List Pl.V)} {a av : Option Addr} {c : Nat} (h : MatO w rows (.slice a rows.length c)) (hav : rows.length = 0 ∨ av = a) : MatO w rows (.slice av rows.length c) := by
  rcases hav with h0 | rfl
  · obtain ⟨_, _, e, hc, _⟩ := h
    cases e
    exact ⟨av, c, rfl, hc, fun hn => absurd (List.length_eq_zero_iff.1 h0) hn⟩
  · exact h
end Go.Proofs.YtojdpjpldokjmaaGreatDoor
