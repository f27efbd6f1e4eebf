/- SELECT and DELETE with a condition made of pieces, read: plainly. Nothing of the program in it. -/
import Derived.Test.YtojdpjpldokjmaaGreatDoorJ10
namespace Go.Proofs.YtojdpjpldokjmaaGreatDoor
namespace Pl
open Go.Deep
set_option linter.unusedVariables false
set_option linter.unusedSimpArgs false

def xAll : List UInt8 := [83, 69, 76, 69, 67, 84, 32, 42, 32, 70, 82, 79, 77, 32, 116]
theorem sp {r : List UInt8} : Sep (32 :: r) := sep_cons (.inl rfl)
def srcT : It := ⟨nT, nT, 0, .nil, false⟩
/-- SELECT from t: a star, or values; a condition. -/
def selSt (all : Bool) (items : List It) (t : T) : St := ⟨115, [], items, [srcT], t, [], false, all, -1, 0⟩
theorem p_all : pParse xAll = some (selSt true [] .nil) := by kernel_rfl
end Pl
end Go.Proofs.YtojdpjpldokjmaaGreatDoor
/- What the drawn numbers and conditions come to, for a row of t: plainly. Nothing of the program in it. -/
namespace Go.Proofs.YtojdpjpldokjmaaGreatDoor
namespace Pl
open Go.Deep
set_option linter.unusedVariables false
set_option linter.unusedSimpArgs false

def tCols : List Col := [⟨nT, [97], 1⟩, ⟨nT, [98], 2⟩, ⟨nT, [99], 3⟩]
/-- A number, or nothing, of at most B. -/
def NumV (B : Int) (v : V) : Prop := v = nul ∨ ∃ n, v = nV n ∧ -B ≤ n ∧ n ≤ B
/-- A truth, or nothing. -/
def BoolV (v : V) : Prop := v = nul ∨ ∃ b, v = tru b
/-- A row of t. -/
def TRow (r : List V) : Prop := ∃ a b c, r = [a, b, c] ∧ NumV 5 a ∧ (b = nul ∨ ∃ s, b = tV s) ∧ BoolV c
theorem vA_num (k : Nat) : NumV 5 (vA k) := by
  unfold vA
  split
  · exact .inl rfl
  all_goals exact .inr ⟨_, rfl, by decide, by decide⟩
theorem rowT_t (v : Nat) : TRow (rowT v) := ⟨_, _, _, rfl, vA_num _, by
  unfold vB
  split
  · exact .inl rfl
  all_goals exact .inr ⟨_, rfl⟩, by
  unfold vC'
  split
  · exact .inl rfl
  all_goals exact .inr ⟨_, rfl⟩⟩
theorem row0_t : TRow row0 := ⟨_, _, _, rfl, .inr ⟨5, rfl, by decide, by decide⟩, .inr ⟨_, rfl⟩, .inr ⟨true, rfl⟩⟩
structure NumOk (B : Int) (t : T) : Prop where
  tc : tc tCols t = .ok 1 ∨ tc tCols t = .ok 0
  ev : ∀ r, TRow r → ∃ v, ev tCols r t = .ok v ∧ NumV B v
structure BoolOk (t : T) : Prop where
  tc : tc tCols t = .ok 3 ∨ tc tCols t = .ok 0
  ev : ∀ r, TRow r → ∃ v, ev tCols r t = .ok v ∧ BoolV v
theorem ev_one {op : Nat} {x : T} {cols : List Col} {row : List V} {u : V} (h2 : 2 ≤ op) (h5 : op ≤ 5) (hx : Pl.ev cols row x = .ok u) : Pl.ev cols row (tOne op x) = ap1 op u := by
  unfold tOne
  rw [Pl.ev]
  rw [if_neg (show ¬ op = 0 by omega), if_neg (show ¬ op = 1 by omega), hx]
  simp only
  rw [if_pos h5]
theorem NumOk.mono {B C : Int} {t : T} (h : NumOk B t) (hb : B ≤ C) : NumOk C t := ⟨h.tc, fun r hr => by
  obtain ⟨v, h1, h2⟩ := h.ev r hr
  exact ⟨v, h1, h2.imp id (fun ⟨n, a, b, c⟩ => ⟨n, a, by omega, by omega⟩)⟩⟩
end Pl
end Go.Proofs.YtojdpjpldokjmaaGreatDoor
/- What the drawn conditions come to, for a row of t: plainly. Nothing of the program in it. -/
namespace Go.Proofs.YtojdpjpldokjmaaGreatDoor
namespace Pl
open Go.Deep
set_option linter.unusedVariables false
set_option linter.unusedSimpArgs false

theorem NumOk.some {B : Int} {t : T} (h : NumOk B t) : ∀ r, TRow r → ∃ v, Pl.ev tCols r t = .ok v := fun r hr => by
  obtain ⟨v, h1, _⟩ := h.ev r hr
  exact ⟨v, h1⟩
theorem BoolOk.some {t : T} (h : BoolOk t) : ∀ r, TRow r → ∃ v, Pl.ev tCols r t = .ok v := fun r hr => by
  obtain ⟨v, h1, _⟩ := h.ev r hr
  exact ⟨v, h1⟩
/-- The condition's value. -/
def evV (t : T) (r : List V) : V := match Pl.ev tCols r t with
  | .ok v => v
  | .error _ => nul
theorem evV_ok {t : T} (h : BoolOk t) {r : List V} (hr : TRow r) : Pl.ev tCols r t = .ok (evV t r) ∧ BoolV (evV t r) := by
  obtain ⟨v, h1, h2⟩ := h.ev r hr
  unfold evV
  rw [h1]
  exact ⟨rfl, h2⟩
end Pl
end Go.Proofs.YtojdpjpldokjmaaGreatDoor
/- SELECT and DELETE with drawn conditions, done: plainly. Nothing of the program in it. -/
namespace Go.Proofs.YtojdpjpldokjmaaGreatDoor
namespace Pl
open Go.Deep
set_option linter.unusedVariables false
set_option linter.unusedSimpArgs false

theorem isort_all {α : Type} {le : α → α → Bool} (h : ∀ a b, le a b = true) : ∀ l : List α, isort le l = l
  | [] => rfl
  | x :: xs => by
    rw [isort, isort_all h xs]
    cases xs with
    | nil => rfl
    | cons y ys => rw [ins, if_pos (h x y)]
theorem zip_snd : ∀ {a b : List (List V)}, a.length = b.length → (a.zip b).map (·.2) = b
  | [], [], _ => rfl
  | _ :: as, b :: bs, h => by simp [zip_snd (a := as) (b := bs) (by simpa using h)]
  | [], _ :: _, h => by simp at h
  | _ :: _, [], h => by simp at h
theorem sorted_none {rows ranks : List (List V)} (h : ranks.length = rows.length) : sorted rows ranks [] = rows := by
  unfold sorted
  rw [isort_all (fun a b => by simp [cmpRanks]), zip_snd h]
/-- Is the condition TRUE for a row? -/
def isYes (t : T) (r : List V) : Bool := V.same (evV t r) (tru true)
theorem sift_ev {t : T} (h : BoolOk t) : ∀ {rows : List (List V)}, (∀ r ∈ rows, TRow r) → sift tCols t rows = .ok (rows.filter (isYes t), rows.filter (fun r => !isYes t r))
  | [], _ => rfl
  | r :: rs, hr => by
    have ih := sift_ev h (rows := rs) (fun x hx => hr x (by simp [hx]))
    rw [sift, (evV_ok h (hr r (by simp))).1]
    simp only
    rw [ih]
    simp only
    by_cases hy : evV t r = tru true
    · have : isYes t r = true := V.same_yes hy
      rw [if_pos hy]
      simp [this]
    · have : isYes t r = false := V.same_no hy
      rw [if_neg hy]
      simp [this]
theorem evRows_map {cols : List Col} {ts : List T} {f : List V → List V} : ∀ {rows : List (List V)}, (∀ r ∈ rows, evAll cols r ts = .ok (f r)) → evRows cols ts rows = .ok (rows.map f)
  | [], _ => rfl
  | r :: rs, h => by
    rw [evRows, h r (by simp)]
    simp only
    rw [evRows_map (fun x hx => h x (by simp [hx]))]
    rfl
theorem tcAs_bool {t : T} (h : BoolOk t) : tcAs tCols t 3 = none := by
  unfold tcAs
  rcases h.tc with h | h <;> rw [h] <;> rfl
theorem true_ok : BoolOk (cond .nil) := ⟨.inl rfl, fun r _ => ⟨tru true, rfl, .inr ⟨true, rfl⟩⟩⟩
theorem window_all (rows : List (List V)) : window rows 0 (-1) = rows := by simp [window]
/-- SELECT from t, done. -/
theorem sel_done {rt ru : List (List V)} (hr : ∀ r ∈ rt, TRow r) {all : Bool} {items : List It} {wh : T} (hw : BoolOk (cond wh)) {f : List V → List V} (htc : tcAll tCols (valuesOf (selSt all items wh) tCols) = none) (hf : ∀ r, TRow r → evAll tCols r (valuesOf (selSt all items wh) tCols) = .ok (f r)) {text : List UInt8} (hp : pParse text = some (selSt all items wh)) : exec (bTab rt ru) text = (bTab rt ru, ⟨(rt.filter (isYes (cond wh))).map f, 0, 0⟩) := by
  rw [exec_select hp rfl]
  have s1 : srcsGo (bTab rt ru) [] (selSt all items wh).sources = .ok [0] := by
    show srcsGo (bTab rt ru) [] [srcT] = _
    simp [srcsGo, srcT, tab_t]
  have c1 : scopes (bTab rt ru) [0] (selSt all items wh).sources = tCols := rfl
  rw [doSelect_of (s := selSt all items wh) (is := [0]) (cols := tCols) (rows := rt) s1 c1 rfl htc (tcAs_bool hw) rfl rfl]
  have hch : chosen tCols (selSt all items wh) rt = .ok ((rt.filter (isYes (cond wh))).map f) := by
    unfold chosen
    rw [show (selSt all items wh).whr = wh from rfl, sift_ev hw hr]
    simp only
    have hk : evRows tCols ((selSt all items wh).keys.map (·.tree)) (rt.filter (isYes (cond wh))) = .ok ((rt.filter (isYes (cond wh))).map (fun _ => [])) := evRows_map (f := fun _ => []) (fun r _ => rfl)
    rw [hk]
    simp only
    rw [show (selSt all items wh).keys.map (·.mark) = [] from rfl, sorted_none (by simp), evRows_map (f := f) (fun r hr' => hf r (hr r (List.mem_filter.1 hr').1))]
    simp only
    show Except.ok (window (if false = true then _ else _) 0 (-1)) = _
    rw [if_neg (by simp), window_all]
  rw [hch]
theorem star_tc (wh : T) : tcAll tCols (valuesOf (selSt true [] wh) tCols) = none := rfl
theorem star_ev (wh : T) (r : List V) (h : TRow r) : evAll tCols r (valuesOf (selSt true [] wh) tCols) = .ok (id r) := by
  obtain ⟨a, b, c, rfl, _⟩ := h
  rfl
theorem all_exec {rt ru : List (List V)} (hr : ∀ r ∈ rt, TRow r) : exec (bTab rt ru) xAll = (bTab rt ru, ⟨rt, 0, 0⟩) := by
  have h := sel_done (ru := ru) hr (wh := .nil) true_ok (star_tc .nil) (star_ev .nil) p_all
  have e : rt.filter (isYes (cond .nil)) = rt := List.filter_eq_self.2 (fun r _ => rfl)
  rw [h, e]
  simp
/-- base's rows of t are rows of t. -/
theorem baseGo_t : ∀ {cs : List Int} {i : Nat} {rt ru : List (List V)}, (∀ r ∈ rt, TRow r) → ∀ r ∈ (baseGo i cs rt ru).1, TRow r
  | [], i, rt, ru, h => h
  | c :: cs, i, rt, ru, h => by
    rw [baseGo]
    split
    · exact h
    · split
      · refine baseGo_t (fun r hr => ?_)
        rcases List.mem_append.1 hr with hr | hr
        · exact h r hr
        · simp at hr; subst hr; exact rowT_t _
      · exact baseGo_t h
theorem base_t (raw : List Int) : ∀ r ∈ (baseRows raw).1, TRow r := baseGo_t (fun r hr => by simp at hr; subst hr; exact row0_t)
theorem baseGo_len : ∀ {cs : List Int} {i : Nat} {rt ru : List (List V)}, i ≤ 14 → rt.length ≤ i / 2 + i % 2 + 1 → ru.length ≤ i / 2 → (baseGo i cs rt ru).1.length ≤ 8 ∧ (baseGo i cs rt ru).2.length ≤ 7 ∧ rt.length ≤ (baseGo i cs rt ru).1.length
  | [], i, rt, ru, hi, h1, h2 => by simp only [baseGo]; omega
  | c :: cs, i, rt, ru, hi, h1, h2 => by
    rw [baseGo]
    split
    · simp only; omega
    · split
      · have := baseGo_len (cs := cs) (i := i + 1) (rt := rt ++ [rowT (pickN c 1099511627776)]) (ru := ru) (by omega) (by simp; omega) (by omega)
        simp at this
        omega
      · have := baseGo_len (cs := cs) (i := i + 1) (rt := rt) (ru := ru ++ [rowU (pickN c 1099511627776)]) (by omega) (by omega) (by simp; omega)
        omega
theorem base_len (raw : List Int) : (baseRows raw).1.length ≤ 8 ∧ (baseRows raw).2.length ≤ 7 ∧ 1 ≤ (baseRows raw).1.length := by
  have := baseGo_len (cs := raw) (i := 0) (rt := [row0]) (ru := []) (by omega) (by simp) (by simp)
  simpa [baseRows] using this
end Pl
end Go.Proofs.YtojdpjpldokjmaaGreatDoor
/- Parted's statements and their answers: plainly. Nothing of the program in it. -/
namespace Go.Proofs.YtojdpjpldokjmaaGreatDoor
namespace Pl
open Go.Deep
set_option linter.unusedVariables false
set_option linter.unusedSimpArgs false

def isNo (t : T) (r : List V) : Bool := V.same (evV t r) (tru false)
def isNil (t : T) (r : List V) : Bool := V.same (evV t r) nul
theorem k_all : ∃ s, pParse xAll = some s ∧ s.kind = 115 ∧ s.distinct = false ∧ s.sources.length = 1 := ⟨_, p_all, rfl, rfl, rfl⟩
/-- Each row is in one of three. -/
theorem three {t : T} (h : BoolOk t) {r : List V} (hr : TRow r) : (evV t r = nul ∧ isNil t r = true ∧ isYes t r = false ∧ isNo t r = false) ∨ (evV t r = tru true ∧ isNil t r = false ∧ isYes t r = true ∧ isNo t r = false) ∨ (evV t r = tru false ∧ isNil t r = false ∧ isYes t r = false ∧ isNo t r = true) := by
  unfold isNil isYes isNo
  rcases (evV_ok h hr).2 with e | ⟨b, e⟩
  · rw [e]; exact .inl ⟨rfl, rfl, rfl, rfl⟩
  · rw [e]
    cases b
    · exact .inr (.inr ⟨rfl, rfl, rfl, rfl⟩)
    · exact .inr (.inl ⟨rfl, rfl, rfl, rfl⟩)
end Pl
end Go.Proofs.YtojdpjpldokjmaaGreatDoor
