/- base, plainly: the database that most statements of rowmillkeep begin with. -/
import Derived.Test.YtojdpjpldokjmaaGreatDoorG33
namespace Go.Proofs.YtojdpjpldokjmaaGreatDoor
namespace Pl
open Go.Deep

/-- A piece that is a value whatever stands beside it: its worth. -/
structure Good1 (p : Pc) (v : V) (ty : Int) : Prop where
  ok : p.ok
  ev : ∀ cols row, ev cols row p.t = .ok v
  tc : ∀ cols, ∃ a, tc cols p.t = .ok a ∧ alike a ty = true
  okt : okT p.t
  len : p.x.length ≤ 60
theorem quote_len : ∀ s : List UInt8, (quote s).length ≤ 2 * s.length
  | [] => by simp [quote]
  | c :: s => by
    have := quote_len s
    unfold quote
    split <;> simp <;> omega
/-- Values of a row, in turn. -/
def Goods : List Pc → List V → List Int → Prop
  | [], [], [] => True
  | p :: ps, v :: vs, t :: ts => Good1 p v t ∧ Goods ps vs ts
  | _, _, _ => False
theorem Goods.nil : Goods [] [] [] := trivial
theorem Goods.cons {p : Pc} {v : V} {t : Int} {ps : List Pc} {vs : List V} {ts : List Int} (h : Good1 p v t) (k : Goods ps vs ts) : Goods (p :: ps) (v :: vs) (t :: ts) := ⟨h, k⟩
theorem Goods.len : ∀ {ps : List Pc} {vs : List V} {ts : List Int}, Goods ps vs ts → vs.length = ps.length ∧ ts.length = ps.length
  | [], [], [], _ => ⟨rfl, rfl⟩
  | p :: ps, v :: vs, t :: ts, h => by have := Goods.len h.2; simp [this]
  | [], _ :: _, _, h => h.elim
  | [], [], _ :: _, h => h.elim
  | _ :: _, [], _, h => h.elim
  | _ :: _, _ :: _, [], h => h.elim
theorem Goods.all : ∀ {ps : List Pc} {vs : List V} {ts : List Int}, Goods ps vs ts → ∀ p ∈ ps, p.ok
  | [], _, _, _, p, hp => by cases hp
  | q :: ps, v :: vs, t :: ts, h, p, hp => by
    rcases List.mem_cons.1 hp with rfl | hp
    · exact h.1.ok
    · exact Goods.all h.2 p hp
  | _ :: _, [], _, h, _, _ => h.elim
  | _ :: _, _ :: _, [], h, _, _ => h.elim
theorem Goods.ev : ∀ {ps : List Pc} {vs : List V} {ts : List Int}, Goods ps vs ts → evAll [] [] (ps.map (·.t)) = .ok vs
  | [], [], [], _ => rfl
  | q :: ps, v :: vs, t :: ts, h => by
    show evAll [] [] (q.t :: ps.map (·.t)) = _
    unfold evAll
    rw [h.1.ev, Goods.ev h.2]
  | [], _ :: _, _, h => h.elim
  | [], [], _ :: _, h => h.elim
  | _ :: _, [], _, h => h.elim
  | _ :: _, _ :: _, [], h => h.elim
theorem Goods.tc : ∀ {ps : List Pc} {vs : List V} {ts : List Int}, Goods ps vs ts → tcRow (ps.map (·.t)) ts = none
  | [], [], [], _ => rfl
  | q :: ps, v :: vs, t :: ts, h => by
    obtain ⟨a, h1, h2⟩ := h.1.tc []
    show tcRow (q.t :: ps.map (·.t)) (t :: ts) = _
    unfold tcRow tcAs
    rw [h1]
    simp only
    rw [if_pos h2]
    exact Goods.tc h.2
  | [], _ :: _, _, h => h.elim
  | [], [], _ :: _, h => h.elim
  | _ :: _, [], _, h => h.elim
  | _ :: _, _ :: _, [], h => h.elim
end Pl
end Go.Proofs.YtojdpjpldokjmaaGreatDoor
/- cond and num, plainly: conditions made of raw numbers, their tokens, trees, what they come to. -/
namespace Go.Proofs.YtojdpjpldokjmaaGreatDoor
namespace Pl
open Go.Deep

/-- A piece that is a single value n deep. -/
structure SgP (n : Nat) (p : Pc) : Prop where
  cl : Cl p.x p.ts
  sg : Sg n p.ts p.t
  ne : p.ts ≠ []
  wf : Wf p.t ∧ WfK p.t
theorem SgP.mono {n m : Nat} {p : Pc} (h : SgP n p) (hm : n ≤ m) : SgP m p := ⟨h.cl, h.sg.mono hm, h.ne, h.wf⟩
theorem SgP.ok {n : Nat} {p : Pc} (h : SgP n p) (hn : n ≤ 20) : p.ok := ⟨h.cl, h.sg.value.mono hn, h.ne⟩
/- How long they are. -/
end Pl
end Go.Proofs.YtojdpjpldokjmaaGreatDoor
