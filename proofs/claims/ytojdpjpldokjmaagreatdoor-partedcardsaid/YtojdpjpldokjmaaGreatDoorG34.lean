/- SELECT and DELETE with a condition made of pieces, read: plainly. Nothing of the program in it. -/
import Derived.Test.YtojdpjpldokjmaaGreatDoorG10
namespace Go.Proofs.YtojdpjpldokjmaaGreatDoor
namespace Pl
open Go.Deep
set_option linter.unusedVariables false
set_option linter.unusedSimpArgs false

def xSel : List UInt8 := [83, 69, 76, 69, 67, 84, 32, 42, 32, 70, 82, 79, 77, 32, 116, 32, 87, 72, 69, 82, 69, 32]
def xAll : List UInt8 := [83, 69, 76, 69, 67, 84, 32, 42, 32, 70, 82, 79, 77, 32, 116]
def xDel : List UInt8 := [68, 69, 76, 69, 84, 69, 32, 70, 82, 79, 77, 32, 116, 32, 87, 72, 69, 82, 69, 32]
def tokT : Tok := ⟨1, 0, nT⟩
theorem cl_select : Cl [83, 69, 76, 69, 67, 84] [kt 30] := cl_kw _ 30 rfl rfl (by kernel_rfl) (by decide)
theorem cl_delete : Cl [68, 69, 76, 69, 84, 69] [kt 25] := cl_kw _ 25 rfl rfl (by kernel_rfl) (by decide)
theorem cl_from : Cl [70, 82, 79, 77] [kt 26] := cl_kw _ 26 rfl rfl (by kernel_rfl) (by decide)
theorem cl_where : Cl [87, 72, 69, 82, 69] [kt 27] := cl_kw _ 27 rfl rfl (by kernel_rfl) (by decide)
theorem cl_not : Cl [78, 79, 84] [kt 43] := cl_kw _ 43 rfl rfl (by kernel_rfl) (by decide)
theorem toks_star (z : List UInt8) : toks (42 :: z) = kt 17 :: toks z := toks_sign 42 z 17 rfl (by decide) (by decide) (by decide)
theorem sp {r : List UInt8} : Sep (32 :: r) := sep_cons (.inl rfl)
theorem toks_sel (z : List UInt8) : toks (xSel ++ z) = kt 30 :: kt 17 :: kt 26 :: tokT :: kt 27 :: toks z := by
  show toks ([83, 69, 76, 69, 67, 84] ++ 32 :: 42 :: 32 :: ([70, 82, 79, 77] ++ 32 :: (nT ++ 32 :: ([87, 72, 69, 82, 69] ++ 32 :: z)))) = _
  rw [cl_select _ sp, toks_space, toks_star, toks_space, cl_from _ sp, toks_space, nT_ok.cl _ sp, toks_space, cl_where _ sp, toks_space]
  rfl
theorem toks_del (z : List UInt8) : toks (xDel ++ z) = kt 25 :: kt 26 :: tokT :: kt 27 :: toks z := by
  show toks ([68, 69, 76, 69, 84, 69] ++ 32 :: ([70, 82, 79, 77] ++ 32 :: (nT ++ 32 :: ([87, 72, 69, 82, 69] ++ 32 :: z)))) = _
  rw [cl_delete _ sp, toks_space, cl_from _ sp, toks_space, nT_ok.cl _ sp, toks_space, cl_where _ sp, toks_space]
  rfl
def srcT : It := ⟨nT, nT, 0, .nil, false⟩
/-- SELECT from t: a star, or values; a condition. -/
def selSt (all : Bool) (items : List It) (t : T) : St := ⟨115, [], items, [srcT], t, [], false, all, -1, 0⟩
theorem from_t {all : Bool} {items : List It} {ts : List Tok} {t : T} (hv : Vl 20 ts t) : pFrom false all items (kt 26 :: tokT :: kt 27 :: ts) = some (selSt all items t, []) := by
  have hw : pVal 20 ts = some (t, []) := by
    have := hv 20 [] (Nat.le_refl _) rfl
    rw [List.append_nil] at this
    exact this
  unfold pFrom
  rw [if_pos (show (hd (kt 26 :: tokT :: kt 27 :: ts)).k = 26 from rfl)]
  have hs : pSources (kt 26 :: tokT :: kt 27 :: ts).tail = some ([srcT], kt 27 :: ts) := rfl
  rw [hs]
  show (if 3 < [srcT].length then none else pTail false all items [srcT] (kt 27 :: ts)) = _
  rw [if_neg (by simp)]
  unfold pTail pWhere
  rw [if_pos (show (hd (kt 27 :: ts)).k = 27 from rfl)]
  show pTail1 false all items [srcT] (pVal 20 ts) = _
  rw [hw]
  rfl
theorem sel_parse {x : List UInt8} {ts : List Tok} {t : T} (hc : Cl x ts) (hv : Vl 20 ts t) (hl : x.length ≤ 500) : pParse (xSel ++ x) = some (selSt true [] t) := by
  unfold pParse
  rw [if_neg (by simp [xSel]; omega), toks_sel]
  have e : toks x = ts := by
    have := hc [] sep_nil
    simpa [toks_nil] using this
  rw [e]
  show pEnd (pQuery (kt 17 :: kt 26 :: tokT :: kt 27 :: ts)) = _
  have q : pQuery (kt 17 :: kt 26 :: tokT :: kt 27 :: ts) = pFrom false true [] (kt 26 :: tokT :: kt 27 :: ts) := rfl
  rw [q, from_t hv]
  rfl
theorem del_parse {x : List UInt8} {ts : List Tok} {t : T} (hc : Cl x ts) (hv : Vl 20 ts t) (hl : x.length ≤ 500) : pParse (xDel ++ x) = some (st0 100 nT [] t) := by
  unfold pParse
  rw [if_neg (by simp [xDel]; omega), toks_del]
  have e : toks x = ts := by
    have := hc [] sep_nil
    simpa [toks_nil] using this
  rw [e]
  have hw : pVal 20 ts = some (t, []) := by
    have := hv 20 [] (Nat.le_refl _) rfl
    rw [List.append_nil] at this
    exact this
  show pEnd (pDelete (kt 26 :: tokT :: kt 27 :: ts)) = _
  unfold pDelete
  rw [if_pos (show (hd (kt 26 :: tokT :: kt 27 :: ts)).k = 26 from rfl), if_pos (show (hd (kt 26 :: tokT :: kt 27 :: ts).tail).k = 1 from rfl)]
  have hp : pWhere (kt 26 :: tokT :: kt 27 :: ts).tail.tail = some (t, []) := by
    show pWhere (kt 27 :: ts) = _
    unfold pWhere
    rw [if_pos (show (hd (kt 27 :: ts)).k = 27 from rfl)]
    exact hw
  rw [hp]
  rfl
theorem p_all : pParse xAll = some (selSt true [] .nil) := by kernel_rfl
/-- NOT ahead of a piece; IS NULL behind it. -/
theorem cl_notx {x : List UInt8} {ts : List Tok} (h : Cl x ts) : Cl ([78, 79, 84, 32] ++ x) (kt 43 :: ts) := fun y hy => by
  show toks ([78, 79, 84] ++ 32 :: (x ++ y)) = _
  rw [cl_not _ sp, toks_space, h y hy]
  rfl
/-- The condition's value, told beside the row's own. -/
def xTold (x : List UInt8) : List UInt8 := [83, 69, 76, 69, 67, 84, 32] ++ (x ++ [44, 32, 116, 46, 97, 44, 32, 98, 44, 32, 116, 46, 99, 32, 70, 82, 79, 77, 32, 116])
def toldPs (p : Pc) : List Pc := [p, pcDot nT nA, pcName nB, pcDot nT nC]
theorem more_join' : ∀ {ps : List Pc} {rest : List Tok} {acc : List It} {f : Nat}, (∀ p ∈ ps, p.ok) → ps ≠ [] → endK (hd rest).k = true → (hd rest).k ≠ 9 → ps.length ≤ f → more iValue f acc (joinT (ps.map (·.ts)) ++ rest) = some (acc ++ ps.map (fun p => itV p.t), rest)
  | [], _, _, _, _, h, _, _, _ => absurd rfl h
  | [p], rest, acc, f, h, _, h8, h9, hf => by
    cases f with
    | zero => simp at hf
    | succ f =>
      have hv := (h p (by simp)).2.1 20 rest (Nat.le_refl _) h8
      have e : iValue (joinT ([p].map (·.ts)) ++ rest) = some (itV p.t, rest) := by
        unfold iValue
        show (match pVal 20 (p.ts ++ rest) with | none => none | some (x, r) => some (_, r)) = _
        rw [show pVal 20 (p.ts ++ rest) = some (p.t, rest) from hv]
        rfl
      unfold more
      rw [e]
      simp only
      rw [if_neg h9]
      rfl
  | p :: q :: r, rest, acc, f, h, _, h8, h9, hf => by
    cases f with
    | zero => simp at hf
    | succ f =>
      have hv := (h p (by simp)).2.1 20 (kt 9 :: (joinT ((q :: r).map (·.ts)) ++ rest)) (Nat.le_refl _) rfl
      have e : iValue (joinT ((p :: q :: r).map (·.ts)) ++ rest) = some (itV p.t, kt 9 :: (joinT ((q :: r).map (·.ts)) ++ rest)) := by
        have e1 : joinT ((p :: q :: r).map (·.ts)) ++ rest = p.ts ++ kt 9 :: (joinT ((q :: r).map (·.ts)) ++ rest) := by simp [joinT]
        rw [e1]
        unfold iValue
        rw [show pVal 20 (p.ts ++ kt 9 :: (joinT ((q :: r).map (·.ts)) ++ rest)) = some (p.t, _) from hv]
        rfl
      unfold more
      rw [e]
      simp only
      rw [if_pos (show (hd (kt 9 :: (joinT ((q :: r).map (·.ts)) ++ rest))).k = 9 from rfl)]
      show more iValue f (acc ++ [itV p.t]) (joinT ((q :: r).map (·.ts)) ++ rest) = _
      rw [more_join' (fun a ha => h a (by simp at ha ⊢; exact .inr ha)) (by simp) h8 h9 (by simp at hf ⊢; omega)]
      simp
theorem toldPs_ok {p : Pc} (h : p.ok) : ∀ q ∈ toldPs p, q.ok := by
  intro q hq
  simp [toldPs] at hq
  rcases hq with rfl | rfl | rfl | rfl
  · exact h
  · exact (pcDot_sg nT_ok nA_ok).ok (by omega)
  · exact (pcName_sg nB_ok).ok (by omega)
  · exact (pcDot_sg nT_ok nC_ok).ok (by omega)
theorem toks_told {p : Pc} (h : p.ok) : toks (xTold p.x) = kt 30 :: (joinT ((toldPs p).map (·.ts)) ++ [kt 26, tokT]) := by
  have e : xTold p.x = [83, 69, 76, 69, 67, 84] ++ 32 :: (sepJoin [44, 32] ((toldPs p).map (·.x)) ++ 32 :: ([70, 82, 79, 77] ++ 32 :: nT)) := by
    simp [xTold, toldPs, sepJoin, pcDot, pcName, nT, nA, nB, nC]
  rw [e, cl_select _ sp, toks_space, toks_join (toldPs_ok h) sp, toks_space, cl_from _ sp, toks_space]
  have : toks nT = [tokT] := by
    have := nT_ok.cl [] sep_nil
    simpa [toks_nil, tokT] using this
  rw [this]
  simp
theorem told_parse {p : Pc} (h : p.ok) (hd7 : (hd p.ts).k = 7) (hl : p.x.length ≤ 500) : pParse (xTold p.x) = some (selSt false ((toldPs p).map (fun q => itV q.t)) .nil) := by
  unfold pParse
  rw [if_neg (by simp [xTold]; omega), toks_told h]
  have hj : (hd (joinT ((toldPs p).map (·.ts)) ++ [kt 26, tokT])).k = 7 := by
    cases hp : p.ts with
    | nil => exact absurd hp h.2.2
    | cons a r =>
      rw [hp] at hd7
      simp [toldPs, joinT, hp]
      exact hd7
  have hlist : listed iValue (joinT ((toldPs p).map (·.ts)) ++ [kt 26, tokT]) = some ((toldPs p).map (fun q => itV q.t), [kt 26, tokT]) := by
    unfold listed
    rw [more_join' (toldPs_ok h) (by simp [toldPs]) rfl (by decide) (by have := joinT_len (toldPs_ok h); simp; omega)]
    rfl
  generalize joinT ((toldPs p).map (·.ts)) ++ [kt 26, tokT] = J at *
  show pEnd (pQuery J) = _
  have hd0 : pDis J = J := by unfold pDis; rw [if_neg (by rw [hj]; decide)]
  have ht : pTold (pDis J) = some ((false, (toldPs p).map (fun q => itV q.t)), [kt 26, tokT]) := by
    rw [hd0]
    unfold pTold
    rw [if_neg (by rw [hj]; decide), hlist]
  rw [query_some ht]
  have : ((hd J).k == 31) = false := by rw [hj]; rfl
  rw [this]
  rfl
end Pl
end Go.Proofs.YtojdpjpldokjmaaGreatDoor
/- What the drawn numbers and conditions come to, for a row of t: plainly. Nothing of the program in it. -/
namespace Go.Proofs.YtojdpjpldokjmaaGreatDoor
namespace Pl
open Go.Deep
set_option linter.unusedVariables false
set_option linter.unusedSimpArgs false

def tCols : List Col := [⟨nT, [97], 1⟩, ⟨nT, [98], 2⟩, ⟨nT, [99], 3⟩]
/-- A number, or nothing, of at most B. -/
def NumV (B : Int) (v : V) : Prop := v = nul ∨ ∃ n, v = nV n ∧ -B ≤ n ∧ n ≤ B
/-- A truth, or nothing. -/
def BoolV (v : V) : Prop := v = nul ∨ ∃ b, v = tru b
/-- A row of t. -/
def TRow (r : List V) : Prop := ∃ a b c, r = [a, b, c] ∧ NumV 5 a ∧ (b = nul ∨ ∃ s, b = tV s) ∧ BoolV c
theorem vA_num (k : Nat) : NumV 5 (vA k) := by
  unfold vA
  split
  · exact .inl rfl
  all_goals exact .inr ⟨_, rfl, by decide, by decide⟩
theorem rowT_t (v : Nat) : TRow (rowT v) := ⟨_, _, _, rfl, vA_num _, by
  unfold vB
  split
  · exact .inl rfl
  all_goals exact .inr ⟨_, rfl⟩, by
  unfold vC'
  split
  · exact .inl rfl
  all_goals exact .inr ⟨_, rfl⟩⟩
theorem row0_t : TRow row0 := ⟨_, _, _, rfl, .inr ⟨5, rfl, by decide, by decide⟩, .inr ⟨_, rfl⟩, .inr ⟨true, rfl⟩⟩
structure NumOk (B : Int) (t : T) : Prop where
  tc : tc tCols t = .ok 1 ∨ tc tCols t = .ok 0
  ev : ∀ r, TRow r → ∃ v, ev tCols r t = .ok v ∧ NumV B v
structure BoolOk (t : T) : Prop where
  tc : tc tCols t = .ok 3 ∨ tc tCols t = .ok 0
  ev : ∀ r, TRow r → ∃ v, ev tCols r t = .ok v ∧ BoolV v
theorem leafN_ok (k : Nat) : NumOk 5 (leafN k).t := by
  unfold leafN
  split
  · exact ⟨.inl rfl, fun r ⟨a, b, c, h, ha, _⟩ => ⟨a, by subst h; rfl, ha⟩⟩
  · exact ⟨.inl rfl, fun r _ => ⟨nV 0, rfl, .inr ⟨0, rfl, by decide, by decide⟩⟩⟩
  · exact ⟨.inl rfl, fun r _ => ⟨nV 1, rfl, .inr ⟨1, rfl, by decide, by decide⟩⟩⟩
  · exact ⟨.inl rfl, fun r _ => ⟨nV 2, rfl, .inr ⟨2, rfl, by decide, by decide⟩⟩⟩
  · exact ⟨.inr rfl, fun r _ => ⟨nul, rfl, .inl rfl⟩⟩
  · exact ⟨.inl rfl, fun r _ => ⟨nV (-1), rfl, .inr ⟨-1, rfl, by decide, by decide⟩⟩⟩
  · exact ⟨.inl rfl, fun r ⟨a, b, c, h, ha, _⟩ => ⟨a, by subst h; rfl, ha⟩⟩
theorem tc_two {op : Nat} {x y : T} {a b : Int} (h6 : 6 ≤ op) (hx : tc tCols x = .ok a) (hy : tc tCols y = .ok b) : tc tCols (tTwo op x y) = fit op a b := by
  unfold tTwo
  rw [tc]
  rw [if_neg (show ¬ op = 0 by omega), if_neg (show ¬ op = 1 by omega), hx]
  simp only
  rw [if_neg (show ¬ op ≤ 5 by omega), hy]
theorem tc_one {op : Nat} {x : T} {a : Int} (h2 : 2 ≤ op) (h5 : op ≤ 5) (hx : tc tCols x = .ok a) : tc tCols (tOne op x) = fit op a a := by
  unfold tOne
  rw [tc]
  rw [if_neg (show ¬ op = 0 by omega), if_neg (show ¬ op = 1 by omega), hx]
  simp only
  rw [if_pos h5]
theorem ev_one {op : Nat} {x : T} {cols : List Col} {row : List V} {u : V} (h2 : 2 ≤ op) (h5 : op ≤ 5) (hx : Pl.ev cols row x = .ok u) : Pl.ev cols row (tOne op x) = ap1 op u := by
  unfold tOne
  rw [Pl.ev]
  rw [if_neg (show ¬ op = 0 by omega), if_neg (show ¬ op = 1 by omega), hx]
  simp only
  rw [if_pos h5]
theorem num_two {op : Nat} (h6 : op = 6 ∨ op = 7 ∨ op = 8) {x y : T} {B C : Int} (hB : 2 ≤ B) (hC : B * B ≤ C) (hC2 : C ≤ 1000000) (hx : NumOk B x) (hy : NumOk B y) : NumOk C (tTwo op x y) := by
  have hf : ∀ a b : Int, (a = 1 ∨ a = 0) → (b = 1 ∨ b = 0) → fit op a b = .ok 1 := by
    intro a b ha hb
    rcases h6 with rfl | rfl | rfl <;> rcases ha with rfl | rfl <;> rcases hb with rfl | rfl <;> rfl
  refine ⟨.inl ?_, fun r hr => ?_⟩
  · rcases hx.tc with h1 | h1 <;> rcases hy.tc with h2 | h2 <;> rw [tc_two (by omega) h1 h2] <;> exact hf _ _ (by simp) (by simp)
  · obtain ⟨u, h1, hu⟩ := hx.ev r hr
    obtain ⟨v, h2, hv⟩ := hy.ev r hr
    rw [ev_two (by omega) (by omega) h1 h2]
    rcases hu with rfl | ⟨n, rfl, hn1, hn2⟩
    · exact ⟨nul, by rcases h6 with rfl | rfl | rfl <;> rfl, .inl rfl⟩
    · rcases hv with rfl | ⟨m, rfl, hm1, hm2⟩
      · exact ⟨nul, by rcases h6 with rfl | rfl | rfl <;> rfl, .inl rfl⟩
      · have hBB : 2 * B ≤ B * B := Int.mul_le_mul_of_nonneg_right hB (by omega)
        have hnm : -(B * B) ≤ n * m ∧ n * m ≤ B * B := by
          have h1 : (n * m).natAbs ≤ B.natAbs * B.natAbs := by rw [Int.natAbs_mul]; exact Nat.mul_le_mul (by omega) (by omega)
          have h2 : ((B.natAbs * B.natAbs : Nat) : Int) = B * B := by
            rw [Int.natCast_mul, Int.natAbs_of_nonneg (by omega)]
          omega
        rw [ap_of n m (by omega)]
        rcases h6 with rfl | rfl | rfl
        · refine ⟨nV (n + m), ?_, .inr ⟨_, rfl, by omega, by omega⟩⟩
          show ranged (n + m) = _
          exact ranged_in ⟨by omega, by omega⟩
        · refine ⟨nV (n - m), ?_, .inr ⟨_, rfl, by omega, by omega⟩⟩
          show ranged (n - m) = _
          exact ranged_in ⟨by omega, by omega⟩
        · refine ⟨nV (n * m), ?_, .inr ⟨_, rfl, by omega, by omega⟩⟩
          show ranged (n * m) = _
          exact ranged_in ⟨by omega, by omega⟩
theorem NumOk.mono {B C : Int} {t : T} (h : NumOk B t) (hb : B ≤ C) : NumOk C t := ⟨h.tc, fun r hr => by
  obtain ⟨v, h1, h2⟩ := h.ev r hr
  exact ⟨v, h1, h2.imp id (fun ⟨n, a, b, c⟩ => ⟨n, a, by omega, by omega⟩)⟩⟩
theorem opN_ok {k : Nat} {a b : Pc} {B C : Int} (hB : 2 ≤ B) (hC : B * B ≤ C) (hC2 : C ≤ 1000000) (ha : NumOk B a.t) (hb : NumOk B b.t) : NumOk C (opN k a b).t := by
  unfold opN
  split
  · exact num_two (.inl rfl) hB hC hC2 ha hb
  · exact num_two (.inr (.inl rfl)) hB hC hC2 ha hb
  · exact num_two (.inr (.inr rfl)) hB hC hC2 ha hb
theorem numN_ok (raw : List Int) (i : Nat) : NumOk 625 (numN raw 2 i).t := by
  have h0 : ∀ i, NumOk 5 (numN raw 0 i).t := fun i => leafN_ok _
  have h1 : ∀ i, NumOk 25 (numN raw 1 i).t := fun i => by
    rw [numN]
    split
    · exact (leafN_ok _).mono (by decide)
    · exact opN_ok (by decide) (by decide) (by decide) (h0 _) (h0 _)
  rw [numN]
  split
  · exact (leafN_ok _).mono (by decide)
  · exact opN_ok (by decide) (by decide) (by decide) (h1 _) (h1 _)
end Pl
end Go.Proofs.YtojdpjpldokjmaaGreatDoor
/- What the drawn conditions come to, for a row of t: plainly. Nothing of the program in it. -/
namespace Go.Proofs.YtojdpjpldokjmaaGreatDoor
namespace Pl
open Go.Deep
set_option linter.unusedVariables false
set_option linter.unusedSimpArgs false

/-- A comparison. -/
theorem cmp_ok {op : Nat} (h1 : 11 ≤ op) (h2 : op ≤ 16) {x y : T} {k : Int} (hx : tc tCols x = .ok k ∨ tc tCols x = .ok 0) (hy : tc tCols y = .ok k ∨ tc tCols y = .ok 0) (ex : ∀ r, TRow r → ∃ v, Pl.ev tCols r x = .ok v) (ey : ∀ r, TRow r → ∃ v, Pl.ev tCols r y = .ok v) : BoolOk (tTwo op x y) := by
  have hf : ∀ a b : Int, (a = k ∨ a = 0) → (b = k ∨ b = 0) → fit op a b = .ok 3 := by
    intro a b ha hb
    have ht : takes op = 0 := by
      unfold takes
      rw [if_neg (by omega), if_pos (by omega)]
    have hg : gives op = 3 := by
      unfold gives
      rw [if_neg (by omega)]
    unfold fit
    rw [ht, hg, if_pos]
    rcases ha with rfl | rfl <;> rcases hb with rfl | rfl <;> simp [alike]
  refine ⟨.inl ?_, fun r hr => ?_⟩
  · rcases hx with h | h <;> rcases hy with h' | h' <;> rw [tc_two (by omega) h h'] <;> exact hf _ _ (by simp) (by simp)
  · obtain ⟨u, hu⟩ := ex r hr
    obtain ⟨v, hv⟩ := ey r hr
    rw [ev_two (by omega) (by omega) hu hv]
    unfold ap2
    rw [if_neg (by omega)]
    split
    · exact ⟨nul, rfl, .inl rfl⟩
    · rw [if_neg (by omega)]
      exact ⟨_, rfl, .inr ⟨_, rfl⟩⟩
theorem NumOk.some {B : Int} {t : T} (h : NumOk B t) : ∀ r, TRow r → ∃ v, Pl.ev tCols r t = .ok v := fun r hr => by
  obtain ⟨v, h1, _⟩ := h.ev r hr
  exact ⟨v, h1⟩
theorem BoolOk.some {t : T} (h : BoolOk t) : ∀ r, TRow r → ∃ v, Pl.ev tCols r t = .ok v := fun r hr => by
  obtain ⟨v, h1, _⟩ := h.ev r hr
  exact ⟨v, h1⟩
theorem not_ok {x : T} (h : BoolOk x) : BoolOk (tOne 3 x) := by
  refine ⟨.inl ?_, fun r hr => ?_⟩
  · rcases h.tc with h | h <;> rw [tc_one (by omega) (by omega) h] <;> rfl
  · obtain ⟨v, h1, h2⟩ := h.ev r hr
    rw [ev_one (by omega) (by omega) h1]
    rcases h2 with rfl | ⟨b, rfl⟩
    · exact ⟨nul, rfl, .inl rfl⟩
    · exact ⟨tru (!b), by cases b <;> rfl, .inr ⟨_, rfl⟩⟩
theorem is_ok {x : T} {k : Int} (ht : tc tCols x = .ok k) (he : ∀ r, TRow r → ∃ v, Pl.ev tCols r x = .ok v) : BoolOk (tOne 4 x) := by
  refine ⟨.inl ?_, fun r hr => ?_⟩
  · rw [tc_one (by omega) (by omega) ht]
    unfold fit
    rw [show takes 4 = 0 from rfl, if_pos (by simp [alike])]
    rfl
  · obtain ⟨v, h1⟩ := he r hr
    rw [ev_one (by omega) (by omega) h1]
    exact ⟨_, rfl, .inr ⟨_, rfl⟩⟩
theorem ev_join {op : Nat} {x y : T} {row : List V} {u v : V} (h : op = 17 ∨ op = 18) (hx : Pl.ev tCols row x = .ok u) (hy : Pl.ev tCols row y = .ok v) : Pl.ev tCols row (tTwo op x y) = .ok u ∨ Pl.ev tCols row (tTwo op x y) = .ok (joined u v (tru (op == 18))) := by
  have e : Pl.ev tCols row (tTwo op x y) = @ite _ (17 ≤ op ∧ u = tru (op == 18)) (@instDecidableAnd _ _ _ (decV u (tru (op == 18)))) (.ok u) (ap2 op u v) := by
    unfold tTwo
    rw [Pl.ev]
    rw [if_neg (show ¬ op = 0 by omega), if_neg (show ¬ op = 1 by omega), hx]
    simp only
    rw [if_neg (show ¬ op ≤ 5 by omega), hy]
  rw [e]
  split
  · exact .inl rfl
  · right
    unfold ap2
    rw [if_pos h]
theorem join_ok {op : Nat} (h : op = 17 ∨ op = 18) {x y : T} (hx : BoolOk x) (hy : BoolOk y) : BoolOk (tTwo op x y) := by
  have hf : ∀ a b : Int, (a = 3 ∨ a = 0) → (b = 3 ∨ b = 0) → fit op a b = .ok 3 := by
    intro a b ha hb
    rcases h with rfl | rfl <;> rcases ha with rfl | rfl <;> rcases hb with rfl | rfl <;> rfl
  refine ⟨.inl ?_, fun r hr => ?_⟩
  · rcases hx.tc with h1 | h1 <;> rcases hy.tc with h2 | h2 <;> rw [tc_two (by omega) h1 h2] <;> exact hf _ _ (by simp) (by simp)
  · obtain ⟨u, h1, h2⟩ := hx.ev r hr
    obtain ⟨v, h3, h4⟩ := hy.ev r hr
    rcases ev_join h h1 h3 with e | e
    · exact ⟨u, e, h2⟩
    · refine ⟨_, e, ?_⟩
      unfold joined
      split
      · exact h4
      · exact h2
theorem nameA_num : NumOk 5 (tName [] nA) := ⟨.inl rfl, fun r ⟨a, b, c, h, ha, _⟩ => ⟨a, by subst h; rfl, ha⟩⟩
theorem lit_num (n : Int) (h1 : -5 ≤ n) (h2 : n ≤ 5) : NumOk 5 (tLit 1 n []) := ⟨.inl rfl, fun r _ => ⟨nV n, rfl, .inr ⟨n, rfl, h1, h2⟩⟩⟩
theorem leafC_ok (k : Nat) : BoolOk (leafC k).t := by
  unfold leafC
  split
  · exact ⟨.inl rfl, fun r ⟨a, b, c, h, _, _, hc⟩ => ⟨c, by subst h; rfl, hc⟩⟩
  · exact ⟨.inl rfl, fun r _ => ⟨tru true, rfl, .inr ⟨true, rfl⟩⟩⟩
  · exact ⟨.inl rfl, fun r _ => ⟨tru false, rfl, .inr ⟨false, rfl⟩⟩⟩
  · exact ⟨.inr rfl, fun r _ => ⟨nul, rfl, .inl rfl⟩⟩
  · exact cmp_ok (by omega) (by omega) nameA_num.tc (lit_num 1 (by decide) (by decide)).tc nameA_num.some (lit_num 1 (by decide) (by decide)).some
  · exact cmp_ok (k := 2) (by omega) (by omega) (.inl rfl) (.inl rfl) (fun r _ => ⟨_, rfl⟩) (fun r _ => ⟨_, rfl⟩)
  · exact cmp_ok (by omega) (by omega) nameA_num.tc (lit_num 2 (by decide) (by decide)).tc nameA_num.some (lit_num 2 (by decide) (by decide)).some
  · exact is_ok (k := 2) rfl (fun r _ => ⟨_, rfl⟩)
  · exact ⟨.inl rfl, fun r ⟨a, b, c, h, _, _, hc⟩ => ⟨c, by subst h; rfl, hc⟩⟩
theorem cmpC_ok {k : Nat} {a b : Pc} {ty : Int} (hx : tc tCols a.t = .ok ty ∨ tc tCols a.t = .ok 0) (hy : tc tCols b.t = .ok ty ∨ tc tCols b.t = .ok 0) (ex : ∀ r, TRow r → ∃ v, Pl.ev tCols r a.t = .ok v) (ey : ∀ r, TRow r → ∃ v, Pl.ev tCols r b.t = .ok v) : BoolOk (cmpC k a b).t := by
  unfold cmpC
  split <;> exact cmp_ok (by omega) (by omega) hx hy ex ey
theorem condN_ok (raw : List Int) : ∀ (d i : Nat), BoolOk (condN raw d i).t
  | 0, i => leafC_ok _
  | d + 1, i => by
    have h1 := condN_ok raw d (i + 1)
    have h3 := condN_ok raw d (i + 3)
    rw [condN]
    split
    · exact not_ok h1
    · exact join_ok (.inl rfl) h1 h3
    · exact join_ok (.inr rfl) h1 h3
    · rcases h1.tc with h | h
      · exact is_ok h h1.some
      · exact is_ok h h1.some
    · exact cmpC_ok h1.tc h3.tc h1.some h3.some
    · exact cmpC_ok (numN_ok raw _).tc (numN_ok raw _).tc (numN_ok raw _).some (numN_ok raw _).some
/-- The condition's value. -/
def evV (t : T) (r : List V) : V := match Pl.ev tCols r t with
  | .ok v => v
  | .error _ => nul
theorem evV_ok {t : T} (h : BoolOk t) {r : List V} (hr : TRow r) : Pl.ev tCols r t = .ok (evV t r) ∧ BoolV (evV t r) := by
  obtain ⟨v, h1, h2⟩ := h.ev r hr
  unfold evV
  rw [h1]
  exact ⟨rfl, h2⟩
end Pl
end Go.Proofs.YtojdpjpldokjmaaGreatDoor
/- SELECT and DELETE with drawn conditions, done: plainly. Nothing of the program in it. -/
namespace Go.Proofs.YtojdpjpldokjmaaGreatDoor
namespace Pl
open Go.Deep
set_option linter.unusedVariables false
set_option linter.unusedSimpArgs false

theorem isort_all {α : Type} {le : α → α → Bool} (h : ∀ a b, le a b = true) : ∀ l : List α, isort le l = l
  | [] => rfl
  | x :: xs => by
    rw [isort, isort_all h xs]
    cases xs with
    | nil => rfl
    | cons y ys => rw [ins, if_pos (h x y)]
theorem zip_snd : ∀ {a b : List (List V)}, a.length = b.length → (a.zip b).map (·.2) = b
  | [], [], _ => rfl
  | _ :: as, b :: bs, h => by simp [zip_snd (a := as) (b := bs) (by simpa using h)]
  | [], _ :: _, h => by simp at h
  | _ :: _, [], h => by simp at h
theorem sorted_none {rows ranks : List (List V)} (h : ranks.length = rows.length) : sorted rows ranks [] = rows := by
  unfold sorted
  rw [isort_all (fun a b => by simp [cmpRanks]), zip_snd h]
/-- Is the condition TRUE for a row? -/
def isYes (t : T) (r : List V) : Bool := V.same (evV t r) (tru true)
theorem sift_ev {t : T} (h : BoolOk t) : ∀ {rows : List (List V)}, (∀ r ∈ rows, TRow r) → sift tCols t rows = .ok (rows.filter (isYes t), rows.filter (fun r => !isYes t r))
  | [], _ => rfl
  | r :: rs, hr => by
    have ih := sift_ev h (rows := rs) (fun x hx => hr x (by simp [hx]))
    rw [sift, (evV_ok h (hr r (by simp))).1]
    simp only
    rw [ih]
    simp only
    by_cases hy : evV t r = tru true
    · have : isYes t r = true := V.same_yes hy
      rw [if_pos hy]
      simp [this]
    · have : isYes t r = false := V.same_no hy
      rw [if_neg hy]
      simp [this]
theorem evRows_map {cols : List Col} {ts : List T} {f : List V → List V} : ∀ {rows : List (List V)}, (∀ r ∈ rows, evAll cols r ts = .ok (f r)) → evRows cols ts rows = .ok (rows.map f)
  | [], _ => rfl
  | r :: rs, h => by
    rw [evRows, h r (by simp)]
    simp only
    rw [evRows_map (fun x hx => h x (by simp [hx]))]
    rfl
theorem tcAs_bool {t : T} (h : BoolOk t) : tcAs tCols t 3 = none := by
  unfold tcAs
  rcases h.tc with h | h <;> rw [h] <;> rfl
theorem true_ok : BoolOk (cond .nil) := ⟨.inl rfl, fun r _ => ⟨tru true, rfl, .inr ⟨true, rfl⟩⟩⟩
theorem window_all (rows : List (List V)) : window rows 0 (-1) = rows := by simp [window]
/-- SELECT from t, done. -/
theorem sel_done {rt ru : List (List V)} (hr : ∀ r ∈ rt, TRow r) {all : Bool} {items : List It} {wh : T} (hw : BoolOk (cond wh)) {f : List V → List V} (htc : tcAll tCols (valuesOf (selSt all items wh) tCols) = none) (hf : ∀ r, TRow r → evAll tCols r (valuesOf (selSt all items wh) tCols) = .ok (f r)) {text : List UInt8} (hp : pParse text = some (selSt all items wh)) : exec (bTab rt ru) text = (bTab rt ru, ⟨(rt.filter (isYes (cond wh))).map f, 0, 0⟩) := by
  rw [exec_select hp rfl]
  have s1 : srcsGo (bTab rt ru) [] (selSt all items wh).sources = .ok [0] := by
    show srcsGo (bTab rt ru) [] [srcT] = _
    simp [srcsGo, srcT, tab_t]
  have c1 : scopes (bTab rt ru) [0] (selSt all items wh).sources = tCols := rfl
  rw [doSelect_of (s := selSt all items wh) (is := [0]) (cols := tCols) (rows := rt) s1 c1 rfl htc (tcAs_bool hw) rfl rfl]
  have hch : chosen tCols (selSt all items wh) rt = .ok ((rt.filter (isYes (cond wh))).map f) := by
    unfold chosen
    rw [show (selSt all items wh).whr = wh from rfl, sift_ev hw hr]
    simp only
    have hk : evRows tCols ((selSt all items wh).keys.map (·.tree)) (rt.filter (isYes (cond wh))) = .ok ((rt.filter (isYes (cond wh))).map (fun _ => [])) := evRows_map (f := fun _ => []) (fun r _ => rfl)
    rw [hk]
    simp only
    rw [show (selSt all items wh).keys.map (·.mark) = [] from rfl, sorted_none (by simp), evRows_map (f := f) (fun r hr' => hf r (hr r (List.mem_filter.1 hr').1))]
    simp only
    show Except.ok (window (if false = true then _ else _) 0 (-1)) = _
    rw [if_neg (by simp), window_all]
  rw [hch]
theorem star_tc (wh : T) : tcAll tCols (valuesOf (selSt true [] wh) tCols) = none := rfl
theorem star_ev (wh : T) (r : List V) (h : TRow r) : evAll tCols r (valuesOf (selSt true [] wh) tCols) = .ok (id r) := by
  obtain ⟨a, b, c, rfl, _⟩ := h
  rfl
theorem all_exec {rt ru : List (List V)} (hr : ∀ r ∈ rt, TRow r) : exec (bTab rt ru) xAll = (bTab rt ru, ⟨rt, 0, 0⟩) := by
  have h := sel_done (ru := ru) hr (wh := .nil) true_ok (star_tc .nil) (star_ev .nil) p_all
  have e : rt.filter (isYes (cond .nil)) = rt := List.filter_eq_self.2 (fun r _ => rfl)
  rw [h, e]
  simp
theorem whr_exec {rt ru : List (List V)} (hr : ∀ r ∈ rt, TRow r) {x : List UInt8} {ts : List Tok} {t : T} (hc : Cl x ts) (hv : Vl 20 ts t) (hl : x.length ≤ 500) (ht : okT t) (hb : BoolOk t) : exec (bTab rt ru) (xSel ++ x) = (bTab rt ru, ⟨rt.filter (isYes t), 0, 0⟩) := by
  have e := cond_id ht
  have h := sel_done (ru := ru) hr (wh := t) (by rw [e]; exact hb) (star_tc t) (star_ev t) (sel_parse hc hv hl)
  rw [h, e]
  simp
theorem told_exec {rt ru : List (List V)} (hr : ∀ r ∈ rt, TRow r) {p : Pc} (h : p.ok) (hd7 : (hd p.ts).k = 7) (hl : p.x.length ≤ 500) (hb : BoolOk p.t) : exec (bTab rt ru) (xTold p.x) = (bTab rt ru, ⟨rt.map (fun r => evV p.t r :: r), 0, 0⟩) := by
  have htc : tcAll tCols (valuesOf (selSt false ((toldPs p).map (fun q => itV q.t)) .nil) tCols) = none := by
    show tcAll tCols [p.t, tName nT nA, tName [] nB, tName nT nC] = none
    rcases hb.tc with h | h <;> simp [tcAll, h] <;> rfl
  have hf : ∀ r, TRow r → evAll tCols r (valuesOf (selSt false ((toldPs p).map (fun q => itV q.t)) .nil) tCols) = .ok ((fun r => evV p.t r :: r) r) := by
    intro r hr
    show evAll tCols r [p.t, tName nT nA, tName [] nB, tName nT nC] = _
    have h1 := (evV_ok hb hr).1
    obtain ⟨a, b, c, rfl, _⟩ := hr
    rw [evAll, h1]
    rfl
  have h := sel_done (ru := ru) hr (wh := .nil) true_ok htc hf (told_parse h hd7 hl)
  have e : rt.filter (isYes (cond .nil)) = rt := List.filter_eq_self.2 (fun r _ => rfl)
  rw [h, e]
theorem del_exec {rt ru : List (List V)} (hr : ∀ r ∈ rt, TRow r) {x : List UInt8} {ts : List Tok} {t : T} (hc : Cl x ts) (hv : Vl 20 ts t) (hl : x.length ≤ 500) (ht : okT t) (hb : BoolOk t) : exec (bTab rt ru) (xDel ++ x) = (bTab (rt.filter (fun r => !isYes t r)) ru, ⟨[], ((rt.filter (isYes t)).length : Nat), 0⟩) := by
  rw [exec_delete (del_parse hc hv hl) rfl]
  unfold doDelete
  rw [show (st0 100 nT [] t).table = nT from rfl, tab_t]
  simp only
  rw [show (st0 100 nT [] t).whr = t from rfl, cond_id ht]
  have hs : scope (tabD (bTab rt ru) 0).name (tabD (bTab rt ru) 0) = tCols := rfl
  rw [hs, tcAs_bool hb]
  simp only
  rw [show (tabD (bTab rt ru) 0).rows = rt from rfl, sift_ev hb hr]
  rfl
/-- base's rows of t are rows of t. -/
theorem baseGo_t : ∀ {cs : List Int} {i : Nat} {rt ru : List (List V)}, (∀ r ∈ rt, TRow r) → ∀ r ∈ (baseGo i cs rt ru).1, TRow r
  | [], i, rt, ru, h => h
  | c :: cs, i, rt, ru, h => by
    rw [baseGo]
    split
    · exact h
    · split
      · refine baseGo_t (fun r hr => ?_)
        rcases List.mem_append.1 hr with hr | hr
        · exact h r hr
        · simp at hr; subst hr; exact rowT_t _
      · exact baseGo_t h
theorem base_t (raw : List Int) : ∀ r ∈ (baseRows raw).1, TRow r := baseGo_t (fun r hr => by simp at hr; subst hr; exact row0_t)
theorem baseGo_len : ∀ {cs : List Int} {i : Nat} {rt ru : List (List V)}, i ≤ 14 → rt.length ≤ i / 2 + i % 2 + 1 → ru.length ≤ i / 2 → (baseGo i cs rt ru).1.length ≤ 8 ∧ (baseGo i cs rt ru).2.length ≤ 7 ∧ rt.length ≤ (baseGo i cs rt ru).1.length
  | [], i, rt, ru, hi, h1, h2 => by simp only [baseGo]; omega
  | c :: cs, i, rt, ru, hi, h1, h2 => by
    rw [baseGo]
    split
    · simp only; omega
    · split
      · have := baseGo_len (cs := cs) (i := i + 1) (rt := rt ++ [rowT (pickN c 1099511627776)]) (ru := ru) (by omega) (by simp; omega) (by omega)
        simp at this
        omega
      · have := baseGo_len (cs := cs) (i := i + 1) (rt := rt) (ru := ru ++ [rowU (pickN c 1099511627776)]) (by omega) (by omega) (by simp; omega)
        omega
theorem base_len (raw : List Int) : (baseRows raw).1.length ≤ 8 ∧ (baseRows raw).2.length ≤ 7 ∧ 1 ≤ (baseRows raw).1.length := by
  have := baseGo_len (cs := raw) (i := 0) (rt := [row0]) (ru := []) (by omega) (by simp) (by simp)
  simpa [baseRows] using this
end Pl
end Go.Proofs.YtojdpjpldokjmaaGreatDoor
/- Parted's statements and their answers: plainly. Nothing of the program in it. -/
namespace Go.Proofs.YtojdpjpldokjmaaGreatDoor
namespace Pl
open Go.Deep
set_option linter.unusedVariables false
set_option linter.unusedSimpArgs false

/-- The drawn condition. -/
def pC (cnd : List Int) : Pc := condN cnd 2 0
theorem pC_sg (cnd : List Int) : SgP 9 (pC cnd) := condN_sg cnd 2 0
theorem pC_len (cnd : List Int) : (pC cnd).x.length ≤ 150 := (condN_len cnd 2 0 (by omega)).1
theorem pC_sz (cnd : List Int) : sz (pC cnd).t ≤ 55 := (condN_len cnd 2 0 (by omega)).2
theorem pC_ok (cnd : List Int) : (pC cnd).ok := (pC_sg cnd).ok (by omega)
theorem pC_okT (cnd : List Int) : okT (pC cnd).t := ⟨(pC_sg cnd).wf.1, (pC_sg cnd).wf.2, by have := pC_sz cnd; omega⟩
theorem pC_bool (cnd : List Int) : BoolOk (pC cnd).t := condN_ok cnd 2 0
theorem cmpC_7 (k : Nat) (a b : Pc) : (hd (cmpC k a b).ts).k = 7 := by
  unfold cmpC
  split <;> rfl
theorem pC_7 (cnd : List Int) : (hd (pC cnd).ts).k = 7 := by
  unfold pC
  rw [condN]
  split
  · rfl
  · rfl
  · rfl
  · rfl
  · exact cmpC_7 _ _ _
  · exact cmpC_7 _ _ _
theorem one_okT {op : Nat} {t : T} (h2 : 2 ≤ op) (h5 : op ≤ 5) (h : okT t) (hs : sz t ≤ 500) : okT (tOne op t) := by
  have := one_good h2 h5 h.1 h.2.1
  refine ⟨this.1, this.2, ?_⟩
  simp only [tOne, sz]
  omega
def isNo (t : T) (r : List V) : Bool := V.same (evV t r) (tru false)
def isNil (t : T) (r : List V) : Bool := V.same (evV t r) nul
theorem evV_one {op : Nat} {t : T} (h2 : 2 ≤ op) (h5 : op ≤ 5) (h : BoolOk t) {r : List V} (hr : TRow r) : evV (tOne op t) r = match ap1 op (evV t r) with | .ok v => v | .error _ => nul := by
  conv => lhs; unfold evV
  rw [ev_one h2 h5 (evV_ok h hr).1]
  all_goals (cases ap1 op (evV t r) <;> rfl)
theorem not_yes {t : T} (h : BoolOk t) {r : List V} (hr : TRow r) : isYes (tOne 3 t) r = isNo t r := by
  unfold isYes isNo
  rw [evV_one (by omega) (by omega) h hr]
  rcases (evV_ok h hr).2 with e | ⟨b, e⟩
  · rw [e]; rfl
  · rw [e]; cases b <;> rfl
theorem nil_yes {t : T} (h : BoolOk t) {r : List V} (hr : TRow r) : isYes (tOne 4 t) r = isNil t r := by
  unfold isYes isNil
  rw [evV_one (by omega) (by omega) h hr]
  rcases (evV_ok h hr).2 with e | ⟨b, e⟩
  · rw [e]; rfl
  · rw [e]; cases b <;> rfl
theorem filter_same {f g : List V → Bool} {rows : List (List V)} (h : ∀ r ∈ rows, f r = g r) : rows.filter f = rows.filter g := by
  induction rows with
  | nil => rfl
  | cons r rs ih =>
    rw [List.filter_cons, List.filter_cons, h r (by simp), ih (fun x hx => h x (by simp [hx]))]
theorem e_yes {rt ru : List (List V)} (hr : ∀ r ∈ rt, TRow r) (cnd : List Int) : exec (bTab rt ru) (xSel ++ (pC cnd).x) = (bTab rt ru, ⟨rt.filter (isYes (pC cnd).t), 0, 0⟩) := whr_exec hr (pC_ok cnd).1 (pC_ok cnd).2.1 (by have := pC_len cnd; omega) (pC_okT cnd) (pC_bool cnd)
theorem e_no {rt ru : List (List V)} (hr : ∀ r ∈ rt, TRow r) (cnd : List Int) : exec (bTab rt ru) (xSel ++ ([78, 79, 84, 32] ++ (pC cnd).x)) = (bTab rt ru, ⟨rt.filter (isNo (pC cnd).t), 0, 0⟩) := by
  rw [whr_exec (ru := ru) hr (cl_notx (pC_ok cnd).1) ((pC_sg cnd).sg.vNot.mono (by omega)) (by have := pC_len cnd; simp; omega) (one_okT (by omega) (by omega) (pC_okT cnd) (by have := pC_sz cnd; omega)) (not_ok (pC_bool cnd))]
  rw [filter_same (fun r h => not_yes (pC_bool cnd) (hr r h))]
theorem e_unk {rt ru : List (List V)} (hr : ∀ r ∈ rt, TRow r) (cnd : List Int) : exec (bTab rt ru) (xSel ++ ((pC cnd).x ++ [32, 73, 83, 32, 78, 85, 76, 76])) = (bTab rt ru, ⟨rt.filter (isNil (pC cnd).t), 0, 0⟩) := by
  have hb : BoolOk (tOne 4 (pC cnd).t) := by
    rcases (pC_bool cnd).tc with h | h
    · exact is_ok h (pC_bool cnd).some
    · exact is_ok h (pC_bool cnd).some
  rw [whr_exec (ru := ru) hr (is_cl (pC_ok cnd).1) ((pC_sg cnd).sg.vIs.mono (by omega)) (by have := pC_len cnd; simp; omega) (one_okT (by omega) (by omega) (pC_okT cnd) (by have := pC_sz cnd; omega)) hb]
  rw [filter_same (fun r h => nil_yes (pC_bool cnd) (hr r h))]
theorem e_told {rt ru : List (List V)} (hr : ∀ r ∈ rt, TRow r) (cnd : List Int) : exec (bTab rt ru) (xTold (pC cnd).x) = (bTab rt ru, ⟨rt.map (fun r => evV (pC cnd).t r :: r), 0, 0⟩) := told_exec hr (pC_ok cnd) (pC_7 cnd) (by have := pC_len cnd; omega) (pC_bool cnd)
theorem e_del {rt ru : List (List V)} (hr : ∀ r ∈ rt, TRow r) (cnd : List Int) : exec (bTab rt ru) (xDel ++ (pC cnd).x) = (bTab (rt.filter (fun r => !isYes (pC cnd).t r)) ru, ⟨[], ((rt.filter (isYes (pC cnd).t)).length : Nat), 0⟩) := del_exec hr (pC_ok cnd).1 (pC_ok cnd).2.1 (by have := pC_len cnd; omega) (pC_okT cnd) (pC_bool cnd)
/-- Which statements these texts are. -/
theorem k_yes (cnd : List Int) : ∃ s, pParse (xSel ++ (pC cnd).x) = some s ∧ s.kind = 115 ∧ s.distinct = false ∧ s.sources.length = 1 := ⟨_, sel_parse (pC_ok cnd).1 (pC_ok cnd).2.1 (by have := pC_len cnd; omega), rfl, rfl, rfl⟩
theorem k_no (cnd : List Int) : ∃ s, pParse (xSel ++ ([78, 79, 84, 32] ++ (pC cnd).x)) = some s ∧ s.kind = 115 ∧ s.distinct = false ∧ s.sources.length = 1 := ⟨_, sel_parse (cl_notx (pC_ok cnd).1) ((pC_sg cnd).sg.vNot.mono (by omega)) (by have := pC_len cnd; simp; omega), rfl, rfl, rfl⟩
theorem k_unk (cnd : List Int) : ∃ s, pParse (xSel ++ ((pC cnd).x ++ [32, 73, 83, 32, 78, 85, 76, 76])) = some s ∧ s.kind = 115 ∧ s.distinct = false ∧ s.sources.length = 1 := ⟨_, sel_parse (is_cl (pC_ok cnd).1) ((pC_sg cnd).sg.vIs.mono (by omega)) (by have := pC_len cnd; simp; omega), rfl, rfl, rfl⟩
theorem k_told (cnd : List Int) : ∃ s, pParse (xTold (pC cnd).x) = some s ∧ s.kind = 115 ∧ s.distinct = false ∧ s.sources.length = 1 := ⟨_, told_parse (pC_ok cnd) (pC_7 cnd) (by have := pC_len cnd; omega), rfl, rfl, rfl⟩
theorem k_all : ∃ s, pParse xAll = some s ∧ s.kind = 115 ∧ s.distinct = false ∧ s.sources.length = 1 := ⟨_, p_all, rfl, rfl, rfl⟩
theorem k_del (cnd : List Int) : (pParse (xDel ++ (pC cnd).x)).map (·.kind) = some 100 := by rw [del_parse (pC_ok cnd).1 (pC_ok cnd).2.1 (by have := pC_len cnd; omega)]; rfl
/-- Each row is in one of three. -/
theorem three {t : T} (h : BoolOk t) {r : List V} (hr : TRow r) : (evV t r = nul ∧ isNil t r = true ∧ isYes t r = false ∧ isNo t r = false) ∨ (evV t r = tru true ∧ isNil t r = false ∧ isYes t r = true ∧ isNo t r = false) ∨ (evV t r = tru false ∧ isNil t r = false ∧ isYes t r = false ∧ isNo t r = true) := by
  unfold isNil isYes isNo
  rcases (evV_ok h hr).2 with e | ⟨b, e⟩
  · rw [e]; exact .inl ⟨rfl, rfl, rfl, rfl⟩
  · rw [e]
    cases b
    · exact .inr (.inr ⟨rfl, rfl, rfl, rfl⟩)
    · exact .inr (.inl ⟨rfl, rfl, rfl, rfl⟩)
theorem three_len {t : T} (h : BoolOk t) : ∀ {rows : List (List V)}, (∀ r ∈ rows, TRow r) → (rows.filter (isYes t)).length + (rows.filter (isNo t)).length + (rows.filter (isNil t)).length = rows.length
  | [], _ => rfl
  | r :: rs, hr => by
    have ih := three_len h (rows := rs) (fun x hx => hr x (by simp [hx]))
    rcases three h (hr r (by simp)) with ⟨_, a, b, c⟩ | ⟨_, a, b, c⟩ | ⟨_, a, b, c⟩ <;> simp [List.filter_cons, a, b, c] <;> omega
theorem left_len {f : List V → Bool} : ∀ {rows : List (List V)}, (rows.filter (fun r => !f r)).length + (rows.filter f).length = rows.length
  | [] => rfl
  | r :: rs => by
    have ih := left_len (f := f) (rows := rs)
    cases h : f r <;> simp [List.filter_cons, h] <;> omega
end Pl
end Go.Proofs.YtojdpjpldokjmaaGreatDoor
