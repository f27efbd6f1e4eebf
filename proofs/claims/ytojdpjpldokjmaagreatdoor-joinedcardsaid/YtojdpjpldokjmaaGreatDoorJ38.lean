/- Joined's statements and their answers: plainly. Nothing of the program in it. -/
import Derived.Test.YtojdpjpldokjmaaGreatDoorJ36
namespace Go.Proofs.YtojdpjpldokjmaaGreatDoor
namespace Pl
open Go.Deep
set_option linter.unusedVariables false
set_option linter.unusedSimpArgs false

def nD : List UInt8 := [100]
/-- The conditions. -/
def jX (c : Nat) : List UInt8 := match c with
  | 0 => [116, 46, 97, 32, 61, 32, 117, 46, 97]
  | 1 => [116, 46, 97, 32, 60, 32, 117, 46, 100]
  | 2 => [99]
  | 3 => [84, 82, 85, 69]
  | 4 => [116, 46, 97, 32, 61, 32, 100, 32, 79, 82, 32, 98, 32, 61, 32, 39, 120, 39]
  | 5 => [78, 85, 76, 76]
  | 6 => [117, 46, 97, 32, 73, 83, 32, 78, 85, 76, 76, 32, 65, 78, 68, 32, 116, 46, 97, 32, 73, 83, 32, 78, 85, 76, 76]
  | _ => [116, 46, 97, 32, 43, 32, 117, 46, 97, 32, 61, 32, 51]
def jT (c : Nat) : T := match c with
  | 0 => tTwo 11 (tName nT nA) (tName nU nA)
  | 1 => tTwo 13 (tName nT nA) (tName nU nD)
  | 2 => tName [] nC
  | 3 => tLit 3 1 []
  | 4 => tTwo 18 (tTwo 11 (tName nT nA) (tName [] nD)) (tTwo 11 (tName [] nB) (tLit 2 0 [120]))
  | 5 => tLit 0 0 []
  | 6 => tTwo 17 (tOne 4 (tName nU nA)) (tOne 4 (tName nT nA))
  | _ => tTwo 11 (tTwo 6 (tName nT nA) (tName nU nA)) (tLit 1 3 [])
def uAll : List UInt8 := [83, 69, 76, 69, 67, 84, 32, 42, 32, 70, 82, 79, 77, 32, 117]
def jPairs (c : Nat) : List UInt8 := [83, 69, 76, 69, 67, 84, 32, 116, 46, 97, 44, 32, 98, 44, 32, 99, 44, 32, 117, 46, 97, 44, 32, 100, 44, 32] ++ (jX c ++ [32, 70, 82, 79, 77, 32, 116, 32, 74, 79, 73, 78, 32, 117, 32, 79, 78, 32, 84, 82, 85, 69])
def jInner (c : Nat) : List UInt8 := [83, 69, 76, 69, 67, 84, 32, 42, 32, 70, 82, 79, 77, 32, 116, 32, 74, 79, 73, 78, 32, 117, 32, 79, 78, 32] ++ jX c
def jLeft (c : Nat) : List UInt8 := [83, 69, 76, 69, 67, 84, 32, 42, 32, 70, 82, 79, 77, 32, 116, 32, 76, 69, 70, 84, 32, 74, 79, 73, 78, 32, 117, 32, 79, 78, 32] ++ jX c
def jWhere (c : Nat) : List UInt8 := [83, 69, 76, 69, 67, 84, 32, 42, 32, 70, 82, 79, 77, 32, 116, 32, 74, 79, 73, 78, 32, 117, 32, 79, 78, 32, 84, 82, 85, 69, 32, 87, 72, 69, 82, 69, 32] ++ jX c
def srcU (c : T) (left : Bool) : It := ⟨nU, nU, 0, c, left⟩
def jSt (all : Bool) (items : List It) (on_ : T) (left : Bool) (wh : T) : St := ⟨115, [], items, [srcT, srcU on_ left], wh, [], false, all, -1, 0⟩
def tTrue : T := tLit 3 1 []
def jItems (c : Nat) : List It := [itV (tName nT nA), itV (tName [] nB), itV (tName [] nC), itV (tName nU nA), itV (tName [] nD), itV (jT c)]
theorem p_uAll : pParse uAll = some ⟨115, [], [], [⟨nU, nU, 0, .nil, false⟩], .nil, [], false, true, -1, 0⟩ := by kernel_rfl
theorem p_pairs {c : Nat} (hc : c < 8) : pParse (jPairs c) = some (jSt false (jItems c) tTrue false .nil) := by
  match c, hc with
  | 0, _ => exact (show pParse (jPairs 0) = some (jSt false (jItems 0) tTrue false .nil) by kernel_rfl) | 1, _ => exact (show pParse (jPairs 1) = some (jSt false (jItems 1) tTrue false .nil) by kernel_rfl) | 2, _ => exact (show pParse (jPairs 2) = some (jSt false (jItems 2) tTrue false .nil) by kernel_rfl) | 3, _ => exact (show pParse (jPairs 3) = some (jSt false (jItems 3) tTrue false .nil) by kernel_rfl) | 4, _ => exact (show pParse (jPairs 4) = some (jSt false (jItems 4) tTrue false .nil) by kernel_rfl) | 5, _ => exact (show pParse (jPairs 5) = some (jSt false (jItems 5) tTrue false .nil) by kernel_rfl) | 6, _ => exact (show pParse (jPairs 6) = some (jSt false (jItems 6) tTrue false .nil) by kernel_rfl) | 7, _ => exact (show pParse (jPairs 7) = some (jSt false (jItems 7) tTrue false .nil) by kernel_rfl)
theorem p_inner {c : Nat} (hc : c < 8) : pParse (jInner c) = some (jSt true [] (jT c) false .nil) := by
  match c, hc with
  | 0, _ => exact (show pParse (jInner 0) = some (jSt true [] (jT 0) false .nil) by kernel_rfl) | 1, _ => exact (show pParse (jInner 1) = some (jSt true [] (jT 1) false .nil) by kernel_rfl) | 2, _ => exact (show pParse (jInner 2) = some (jSt true [] (jT 2) false .nil) by kernel_rfl) | 3, _ => exact (show pParse (jInner 3) = some (jSt true [] (jT 3) false .nil) by kernel_rfl) | 4, _ => exact (show pParse (jInner 4) = some (jSt true [] (jT 4) false .nil) by kernel_rfl) | 5, _ => exact (show pParse (jInner 5) = some (jSt true [] (jT 5) false .nil) by kernel_rfl) | 6, _ => exact (show pParse (jInner 6) = some (jSt true [] (jT 6) false .nil) by kernel_rfl) | 7, _ => exact (show pParse (jInner 7) = some (jSt true [] (jT 7) false .nil) by kernel_rfl)
theorem p_left {c : Nat} (hc : c < 8) : pParse (jLeft c) = some (jSt true [] (jT c) true .nil) := by
  match c, hc with
  | 0, _ => exact (show pParse (jLeft 0) = some (jSt true [] (jT 0) true .nil) by kernel_rfl) | 1, _ => exact (show pParse (jLeft 1) = some (jSt true [] (jT 1) true .nil) by kernel_rfl) | 2, _ => exact (show pParse (jLeft 2) = some (jSt true [] (jT 2) true .nil) by kernel_rfl) | 3, _ => exact (show pParse (jLeft 3) = some (jSt true [] (jT 3) true .nil) by kernel_rfl) | 4, _ => exact (show pParse (jLeft 4) = some (jSt true [] (jT 4) true .nil) by kernel_rfl) | 5, _ => exact (show pParse (jLeft 5) = some (jSt true [] (jT 5) true .nil) by kernel_rfl) | 6, _ => exact (show pParse (jLeft 6) = some (jSt true [] (jT 6) true .nil) by kernel_rfl) | 7, _ => exact (show pParse (jLeft 7) = some (jSt true [] (jT 7) true .nil) by kernel_rfl)
theorem p_where {c : Nat} (hc : c < 8) : pParse (jWhere c) = some (jSt true [] tTrue false (jT c)) := by
  match c, hc with
  | 0, _ => exact (show pParse (jWhere 0) = some (jSt true [] tTrue false (jT 0)) by kernel_rfl) | 1, _ => exact (show pParse (jWhere 1) = some (jSt true [] tTrue false (jT 1)) by kernel_rfl) | 2, _ => exact (show pParse (jWhere 2) = some (jSt true [] tTrue false (jT 2)) by kernel_rfl) | 3, _ => exact (show pParse (jWhere 3) = some (jSt true [] tTrue false (jT 3)) by kernel_rfl) | 4, _ => exact (show pParse (jWhere 4) = some (jSt true [] tTrue false (jT 4)) by kernel_rfl) | 5, _ => exact (show pParse (jWhere 5) = some (jSt true [] tTrue false (jT 5)) by kernel_rfl) | 6, _ => exact (show pParse (jWhere 6) = some (jSt true [] tTrue false (jT 6)) by kernel_rfl) | 7, _ => exact (show pParse (jWhere 7) = some (jSt true [] tTrue false (jT 7)) by kernel_rfl)
def jCols : List Col := tCols ++ [⟨nU, nA, 1⟩, ⟨nU, nD, 1⟩]
/-- A row of u. -/
def URow (s : List V) : Prop := ∃ a d, s = [a, d] ∧ NumV 5 a ∧ NumV 5 d
/-- A pair. -/
def JRow (r : List V) : Prop := ∃ a b c e d, r = [a, b, c, e, d] ∧ NumV 5 a ∧ (b = nul ∨ ∃ s, b = tV s) ∧ BoolV c ∧ NumV 5 e ∧ NumV 5 d
theorem pair_j {r s : List V} (h : TRow r) (h2 : URow s) : JRow (r ++ s) := by
  obtain ⟨a, b, c, rfl, h1, h3, h4⟩ := h
  obtain ⟨e, d, rfl, h5, h6⟩ := h2
  exact ⟨a, b, c, e, d, rfl, h1, h3, h4, h5, h6⟩
theorem j_tc (c : Nat) : tc jCols (jT c) = .ok 3 ∨ tc jCols (jT c) = .ok 0 := by
  match c with
  | 0 => exact .inl rfl | 1 => exact .inl rfl | 2 => exact .inl rfl | 3 => exact .inl rfl | 4 => exact .inl rfl | 5 => exact .inr rfl | 6 => exact .inl rfl | _ + 7 => exact .inl rfl
theorem cmp_bool {op : Nat} (h11 : 11 ≤ op) (l r : V) : ∃ v, ap2 op l r = .ok v ∧ (op ≤ 16 → BoolV v) := by
  unfold ap2
  split
  · exact ⟨_, rfl, fun h => by omega⟩
  · split
    · exact ⟨_, rfl, fun _ => .inl rfl⟩
    · rw [if_neg (by omega)]
      exact ⟨_, rfl, fun _ => .inr ⟨_, rfl⟩⟩
theorem ev_pair {r : List V} (h : JRow r) : ∃ a b c e d, r = [a, b, c, e, d] ∧ ev jCols r (tName nT nA) = .ok a ∧ ev jCols r (tName nU nA) = .ok e ∧ ev jCols r (tName nU nD) = .ok d ∧ ev jCols r (tName [] nD) = .ok d ∧ ev jCols r (tName [] nB) = .ok b ∧ ev jCols r (tName [] nC) = .ok c ∧ BoolV c ∧ NumV 5 a ∧ NumV 5 e := by
  obtain ⟨a, b, cc, e, d, rfl, h1, h3, h4, h5, h6⟩ := h
  exact ⟨a, b, cc, e, d, rfl, rfl, rfl, rfl, rfl, rfl, rfl, h4, h1, h5⟩
theorem j_cmp {op : Nat} (h11 : 11 ≤ op) (h16 : op ≤ 16) {x y : T} {r : List V} {u v : V} (hx : ev jCols r x = .ok u) (hy : ev jCols r y = .ok v) : ∃ z, ev jCols r (tTwo op x y) = .ok z ∧ BoolV z := by
  obtain ⟨z, h1, h2⟩ := cmp_bool h11 u v
  exact ⟨z, by rw [ev_two (by omega) h16 hx hy, h1], h2 h16⟩
theorem num_add {a e : V} (h1 : NumV 5 a) (h2 : NumV 5 e) : ∃ z, ap2 6 a e = .ok z := by
  rcases h1 with rfl | ⟨n, rfl, a1, a2⟩
  · exact ⟨nul, rfl⟩
  · rcases h2 with rfl | ⟨m, rfl, b1, b2⟩
    · exact ⟨nul, rfl⟩
    · refine ⟨nV (n + m), ?_⟩
      show ranged (n + m) = _
      exact ranged_in ⟨by omega, by omega⟩
theorem j_join {op : Nat} (h : op = 17 ∨ op = 18) {x y : T} {r : List V} (hx : ∃ z, ev jCols r x = .ok z ∧ BoolV z) (hy : ∃ z, ev jCols r y = .ok z ∧ BoolV z) : ∃ z, ev jCols r (tTwo op x y) = .ok z ∧ BoolV z := by
  obtain ⟨u, h1, h2⟩ := hx
  obtain ⟨v, h3, h4⟩ := hy
  have e : Pl.ev jCols r (tTwo op x y) = @ite _ (17 ≤ op ∧ u = tru (op == 18)) (@instDecidableAnd _ _ _ (decV u (tru (op == 18)))) (.ok u) (ap2 op u v) := by
    unfold tTwo
    rw [Pl.ev]
    rw [if_neg (show ¬ op = 0 by omega), if_neg (show ¬ op = 1 by omega), h1]
    simp only
    rw [if_neg (show ¬ op ≤ 5 by omega), h3]
  rw [e]
  split
  · exact ⟨u, rfl, h2⟩
  · unfold ap2
    rw [if_pos h]
    refine ⟨_, rfl, ?_⟩
    unfold joined
    split
    · exact h4
    · exact h2
theorem j_is {x : T} {r : List V} {u : V} (hx : ev jCols r x = .ok u) : ∃ z, ev jCols r (tOne 4 x) = .ok z ∧ BoolV z := by
  refine ⟨tru (u.miss == true), ?_, .inr ⟨_, rfl⟩⟩
  rw [ev_one (by omega) (by omega) hx]
  rfl
theorem j_ev {c : Nat} (hc : c < 8) {r : List V} (h : JRow r) : ∃ v, ev jCols r (jT c) = .ok v ∧ BoolV v := by
  obtain ⟨a, b, cc, e, d, rfl, ea, ee, ed, ed', eb, ec, hcc, ha, he⟩ := ev_pair h
  match c, hc with
  | 0, _ => exact j_cmp (by omega) (by omega) ea ee
  | 1, _ => exact j_cmp (by omega) (by omega) ea ed
  | 2, _ => exact ⟨cc, ec, hcc⟩
  | 3, _ => exact ⟨tru true, rfl, .inr ⟨true, rfl⟩⟩
  | 4, _ => exact j_join (.inr rfl) (j_cmp (by omega) (by omega) ea ed') (j_cmp (by omega) (by omega) eb rfl)
  | 5, _ => exact ⟨nul, rfl, .inl rfl⟩
  | 6, _ => exact j_join (.inl rfl) (j_is ee) (j_is ea)
  | 7, _ =>
    obtain ⟨z, hz⟩ := num_add ha he
    exact j_cmp (by omega) (by omega) (show ev jCols _ (tTwo 6 (tName nT nA) (tName nU nA)) = .ok z by rw [ev_two (by omega) (by omega) ea ee, hz]) rfl
/-- What the condition comes to. -/
def evJ (c : Nat) (r : List V) : V := match ev jCols r (jT c) with
  | .ok v => v
  | .error _ => nul
def jYes (c : Nat) (r : List V) : Bool := V.same (evJ c r) (tru true)
theorem evJ_ok {c : Nat} (hc : c < 8) {r : List V} (h : JRow r) : ev jCols r (jT c) = .ok (evJ c r) ∧ BoolV (evJ c r) := by
  obtain ⟨v, h1, h2⟩ := j_ev hc h
  unfold evJ
  rw [h1]
  exact ⟨rfl, h2⟩
theorem beside_ev {c : Nat} (hc : c < 8) {r : List V} (hr : TRow r) : ∀ {qs : List (List V)}, (∀ q ∈ qs, URow q) → beside jCols (jT c) r qs = .ok ((qs.map (r ++ ·)).filter (jYes c))
  | [], _ => rfl
  | q :: qs, h => by
    rw [beside, (evJ_ok hc (pair_j hr (h q (by simp)))).1]
    simp only
    rw [beside_ev hc hr (fun x hx => h x (by simp [hx]))]
    simp only
    by_cases hy : evJ c (r ++ q) = tru true
    · have : jYes c (r ++ q) = true := V.same_yes hy
      rw [if_pos hy]
      simp [this]
    · have : jYes c (r ++ q) = false := V.same_no hy
      rw [if_neg hy]
      simp [this]
/-- The pairs of a row for which the condition is TRUE. -/
def jOf (c : Nat) (ru : List (List V)) (r : List V) : List (List V) := (ru.map (r ++ ·)).filter (jYes c)
def jOuter (c : Nat) (ru : List (List V)) (r : List V) : List (List V) := if (jOf c ru r).isEmpty = true then [r ++ [nul, nul]] else jOf c ru r
theorem joinRows_ev {c : Nat} (hc : c < 8) (left : Bool) {ru : List (List V)} (hu : ∀ q ∈ ru, URow q) : ∀ {rt : List (List V)}, (∀ r ∈ rt, TRow r) → joinRows jCols (jT c) left 2 ru rt = .ok (rt.flatMap (if left = true then jOuter c ru else jOf c ru))
  | [], _ => rfl
  | r :: rs, h => by
    rw [joinRows, beside_ev hc (h r (by simp)) hu]
    simp only
    rw [joinRows_ev hc left hu (fun x hx => h x (by simp [hx]))]
    simp only
    rw [List.flatMap_cons]
    cases left with
    | false => rfl
    | true => rfl
theorem jsel_done {rt ru : List (List V)} {text : List UInt8} {all : Bool} {items : List It} {on_ wh : T} {left : Bool} {rows out : List (List V)} {z : List (List V) × List (List V)} (hp : pParse text = some (jSt all items on_ left wh)) (h2 : tcAs jCols on_ 3 = none) (h3 : tcAll jCols (valuesOf (jSt all items on_ left wh) jCols) = none) (h4 : tcAs jCols (cond wh) 3 = none)
    (hj : joinRows jCols on_ left 2 ru rt = .ok rows) (hs : sift jCols (cond wh) rows = .ok z) (he : evRows jCols (valuesOf (jSt all items on_ left wh) jCols) z.1 = .ok out) : exec (bTab rt ru) text = (bTab rt ru, ⟨out, 0, 0⟩) := by
  rw [exec_select hp rfl]
  have s1 : srcsGo (bTab rt ru) [] (jSt all items on_ left wh).sources = .ok [0, 1] := by
    show srcsGo (bTab rt ru) [] [srcT, srcU on_ left] = _
    simp [srcsGo, srcT, srcU, tab_t, tab_u]
    rw [if_neg (by decide)]
  have o1 : onsGo (bTab rt ru) (scopes (bTab rt ru) ([0, 1].take 1) ((jSt all items on_ left wh).sources.take 1)) ([0, 1].drop 1) ((jSt all items on_ left wh).sources.drop 1) = none := by
    show onsGo (bTab rt ru) tCols [1] [srcU on_ left] = none
    rw [onsGo, show tcAs (tCols ++ scope (srcU on_ left).other (tabD (bTab rt ru) 1)) (srcU on_ left).tree 3 = none from h2]
    rfl
  have j1 : joinsGo (bTab rt ru) (scopes (bTab rt ru) ([0, 1].take 1) ((jSt all items on_ left wh).sources.take 1)) (tabD (bTab rt ru) ([0, 1].headD 0)).rows ([0, 1].drop 1) ((jSt all items on_ left wh).sources.drop 1) = .ok rows := by
    show joinsGo (bTab rt ru) tCols rt [1] [srcU on_ left] = .ok rows
    rw [joinsGo, show joinRows (tCols ++ scope (srcU on_ left).other (tabD (bTab rt ru) 1)) (srcU on_ left).tree (srcU on_ left).mark (tabD (bTab rt ru) 1).cols.length (tabD (bTab rt ru) 1).rows rt = .ok rows from hj]
    rfl
  rw [doSelect_of (s := jSt all items on_ left wh) (is := [0, 1]) (cols := jCols) (rows := rows) s1 rfl o1 h3 h4 rfl j1]
  have hch : chosen jCols (jSt all items on_ left wh) rows = .ok out := by
    unfold chosen
    rw [show (jSt all items on_ left wh).whr = wh from rfl, hs]
    simp only
    have hk : evRows jCols ((jSt all items on_ left wh).keys.map (·.tree)) z.1 = .ok (z.1.map (fun _ => [])) := evRows_map (f := fun _ => []) (fun r _ => rfl)
    rw [hk]
    simp only
    rw [show (jSt all items on_ left wh).keys.map (·.mark) = [] from rfl, sorted_none (by simp), he]
    simp only
    show Except.ok (window (if false = true then _ else _) 0 (-1)) = _
    rw [if_neg (by simp), window_all]
  rw [hch]
theorem j_tcAs (c : Nat) : tcAs jCols (jT c) 3 = none := by
  unfold tcAs
  rcases j_tc c with h | h <;> rw [h] <;> rfl
theorem jYes_3 (r : List V) : jYes 3 r = true := rfl
/-- All pairs. -/
def prs (rt ru : List (List V)) : List (List V) := rt.flatMap (fun r => ru.map (r ++ ·))
theorem jOf_3 (ru : List (List V)) (r : List V) : jOf 3 ru r = ru.map (r ++ ·) := List.filter_eq_self.2 (fun q _ => jYes_3 q)
theorem prs_j {rt ru : List (List V)} (ht : ∀ r ∈ rt, TRow r) (hu : ∀ q ∈ ru, URow q) : ∀ r ∈ prs rt ru, JRow r := fun r hr => by
  obtain ⟨x, hx, hq⟩ := List.mem_flatMap.1 hr
  obtain ⟨q, hq2, rfl⟩ := List.mem_map.1 hq
  exact pair_j (ht x hx) (hu q hq2)
theorem sift_all : ∀ (rows : List (List V)), sift jCols (cond .nil) rows = .ok (rows, [])
  | [] => rfl
  | r :: rs => by
    rw [sift, show ev jCols r (cond .nil) = .ok (tru true) from rfl]
    simp only
    rw [sift_all rs]
    simp only
    rw [if_pos trivial]
theorem sift_j {c : Nat} (hc : c < 8) : ∀ {rows : List (List V)}, (∀ r ∈ rows, JRow r) → ∃ z, sift jCols (jT c) rows = .ok (rows.filter (jYes c), z)
  | [], _ => ⟨[], rfl⟩
  | r :: rs, h => by
    obtain ⟨z, hz⟩ := sift_j hc (rows := rs) (fun x hx => h x (by simp [hx]))
    rw [sift, (evJ_ok hc (h r (by simp))).1]
    simp only
    rw [hz]
    simp only
    by_cases hy : evJ c r = tru true
    · have : jYes c r = true := V.same_yes hy
      exact ⟨z, by rw [if_pos hy]; simp [this]⟩
    · have : jYes c r = false := V.same_no hy
      exact ⟨r :: z, by rw [if_neg hy]; simp [this]⟩
theorem star_j {r : List V} (h : JRow r) : evAll jCols r (stars jCols) = .ok (id r) := by
  obtain ⟨a, b, c, e, d, rfl, _⟩ := h
  rfl
def uCols : List Col := [⟨nU, nA, 1⟩, ⟨nU, nD, 1⟩]
def uSt : St := ⟨115, [], [], [⟨nU, nU, 0, .nil, false⟩], .nil, [], false, true, -1, 0⟩
theorem sift_u : ∀ (rows : List (List V)), sift uCols (cond .nil) rows = .ok (rows, [])
  | [] => rfl
  | r :: rs => by
    rw [sift, show ev uCols r (cond .nil) = .ok (tru true) from rfl]
    simp only
    rw [sift_u rs]
    simp only
    rw [if_pos trivial]
theorem e_uAll {rt ru : List (List V)} (hu : ∀ q ∈ ru, URow q) : exec (bTab rt ru) uAll = (bTab rt ru, ⟨ru, 0, 0⟩) := by
  rw [exec_select p_uAll rfl]
  have s1 : srcsGo (bTab rt ru) [] uSt.sources = .ok [1] := by
    show srcsGo (bTab rt ru) [] [⟨nU, nU, 0, .nil, false⟩] = _
    simp [srcsGo, tab_u]
  show doSelect (bTab rt ru) uSt = _
  rw [doSelect_of (s := uSt) (is := [1]) (cols := uCols) (rows := ru) s1 rfl rfl rfl rfl rfl rfl]
  have hch : chosen uCols uSt ru = .ok ru := by
    unfold chosen
    rw [show uSt.whr = .nil from rfl, sift_u]
    simp only
    have hk : evRows uCols (uSt.keys.map (·.tree)) ru = .ok (ru.map (fun _ => [])) := evRows_map (f := fun _ => []) (fun r _ => rfl)
    rw [hk]
    simp only
    rw [show uSt.keys.map (·.mark) = [] from rfl, sorted_none (by simp), evRows_map (f := id) (fun r hr => by
      obtain ⟨a, d, rfl, _⟩ := hu r hr
      rfl), List.map_id]
    simp only
    show Except.ok (window (if false = true then _ else _) 0 (-1)) = _
    rw [if_neg (by simp), window_all]
  rw [hch]
theorem jTrue (ru : List (List V)) : (fun r => jOf 3 ru r) = fun r => ru.map (r ++ ·) := funext (fun r => jOf_3 ru r)
theorem e_pairs {rt ru : List (List V)} (ht : ∀ r ∈ rt, TRow r) (hu : ∀ q ∈ ru, URow q) {c : Nat} (hc : c < 8) : exec (bTab rt ru) (jPairs c) = (bTab rt ru, ⟨(prs rt ru).map (fun r => r ++ [evJ c r]), 0, 0⟩) := by
  have hj : joinRows jCols (jT 3) false 2 ru rt = .ok (prs rt ru) := by
    rw [joinRows_ev (by omega) false hu ht]
    unfold prs
    rw [← jTrue]
    rfl
  refine jsel_done (p_pairs hc) (j_tcAs 3) ?_ rfl hj (sift_all _) (evRows_map (f := fun r => r ++ [evJ c r]) (fun r hr => ?_))
  · show tcAll jCols [tName nT nA, tName [] nB, tName [] nC, tName nU nA, tName [] nD, jT c] = none
    rcases j_tc c with h | h <;> simp [tcAll, h] <;> rfl
  · show evAll jCols r [tName nT nA, tName [] nB, tName [] nC, tName nU nA, tName [] nD, jT c] = _
    have h := prs_j ht hu r hr
    have h1 := (evJ_ok hc h).1
    obtain ⟨a, b, cc, e, d, rfl, _⟩ := h
    simp only [evAll]
    rw [h1]
    rfl
theorem e_inner {rt ru : List (List V)} (ht : ∀ r ∈ rt, TRow r) (hu : ∀ q ∈ ru, URow q) {c : Nat} (hc : c < 8) : exec (bTab rt ru) (jInner c) = (bTab rt ru, ⟨rt.flatMap (jOf c ru), 0, 0⟩) := by
  have h := jsel_done (p_inner hc) (j_tcAs c) rfl rfl (joinRows_ev hc false hu ht) (sift_all _) (evRows_map (f := id) (fun r hr => star_j (by
    obtain ⟨x, hx, hq⟩ := List.mem_flatMap.1 hr
    obtain ⟨q, hq2, rfl⟩ := List.mem_map.1 (List.mem_filter.1 hq).1
    exact pair_j (ht x hx) (hu q hq2))))
  rw [h]
  simp
theorem e_left {rt ru : List (List V)} (ht : ∀ r ∈ rt, TRow r) (hu : ∀ q ∈ ru, URow q) {c : Nat} (hc : c < 8) : exec (bTab rt ru) (jLeft c) = (bTab rt ru, ⟨rt.flatMap (jOuter c ru), 0, 0⟩) := by
  have h := jsel_done (p_left hc) (j_tcAs c) rfl rfl (joinRows_ev hc true hu ht) (sift_all _) (evRows_map (f := id) (fun r hr => star_j (by
    obtain ⟨x, hx, hq⟩ := List.mem_flatMap.1 hr
    rw [if_pos rfl] at hq
    unfold jOuter at hq
    split at hq
    · simp at hq
      subst hq
      exact pair_j (ht x hx) ⟨nul, nul, rfl, .inl rfl, .inl rfl⟩
    · obtain ⟨q, hq2, rfl⟩ := List.mem_map.1 (List.mem_filter.1 hq).1
      exact pair_j (ht x hx) (hu q hq2))))
  rw [h]
  simp
theorem filter_flat {f : List V → Bool} {g : List V → List (List V)} : ∀ (rt : List (List V)), (rt.flatMap g).filter f = rt.flatMap (fun r => (g r).filter f)
  | [] => rfl
  | r :: rs => by rw [List.flatMap_cons, List.flatMap_cons, List.filter_append, filter_flat rs]
theorem e_where {rt ru : List (List V)} (ht : ∀ r ∈ rt, TRow r) (hu : ∀ q ∈ ru, URow q) {c : Nat} (hc : c < 8) (hok : okT (jT c)) : exec (bTab rt ru) (jWhere c) = (bTab rt ru, ⟨rt.flatMap (jOf c ru), 0, 0⟩) := by
  have hj : joinRows jCols (jT 3) false 2 ru rt = .ok (prs rt ru) := by
    rw [joinRows_ev (by omega) false hu ht]
    unfold prs
    rw [← jTrue]
    rfl
  obtain ⟨z, hz⟩ := sift_j hc (prs_j ht hu)
  have h := jsel_done (p_where hc) (j_tcAs 3) rfl (by rw [cond_id hok]; exact j_tcAs c) hj (by rw [cond_id hok]; exact hz) (evRows_map (f := id) (fun r hr => star_j (prs_j ht hu r (List.mem_filter.1 hr).1)))
  rw [h, List.map_id]
  unfold prs
  rw [filter_flat]
  rfl
/-- base's rows of u are rows of u. -/
theorem rowU_u (v : Nat) : URow (rowU v) := ⟨_, _, rfl, vA_num _, .inr ⟨_, rfl, by omega, by omega⟩⟩
theorem baseGo_u : ∀ {cs : List Int} {i : Nat} {rt ru : List (List V)}, (∀ r ∈ ru, URow r) → ∀ r ∈ (baseGo i cs rt ru).2, URow r
  | [], i, rt, ru, h => h
  | c :: cs, i, rt, ru, h => by
    rw [baseGo]
    split
    · exact h
    · split
      · exact baseGo_u h
      · refine baseGo_u (fun r hr => ?_)
        rcases List.mem_append.1 hr with hr | hr
        · exact h r hr
        · simp at hr; subst hr; exact rowU_u _
theorem base_u (raw : List Int) : ∀ r ∈ (baseRows raw).2, URow r := baseGo_u (fun r hr => by simp at hr)
theorem jT_some {c : Nat} (hc : c < 8) : jT c ≠ .nil := by
  match c, hc with
  | 0, _ => exact fun h => by cases h
  | 1, _ => exact fun h => by cases h
  | 2, _ => exact fun h => by cases h
  | 3, _ => exact fun h => by cases h
  | 4, _ => exact fun h => by cases h
  | 5, _ => exact fun h => by cases h
  | 6, _ => exact fun h => by cases h
  | 7, _ => exact fun h => by cases h
theorem j_okT {c : Nat} (hc : c < 8) : okT (jT c) := (parse_ok (p_where hc)).whr.resolve_left (jT_some hc)
end Pl
end Go.Proofs.YtojdpjpldokjmaaGreatDoor
