/- Reckoned, plainly: the answers of its statements. -/
import Derived.Test.YtojdpjpldokjmaaGreatDoorG08
import Derived.Test.YtojdpjpldokjmaaGreatDoorG21
namespace Go.Proofs.YtojdpjpldokjmaaGreatDoor
namespace Pl
open Go.Deep

theorem exec_insert {db : DB} {text : List UInt8} {s : St} (hp : pParse text = some s) (hk : s.kind = 105) : exec db text = doInsert db s := by
  unfold exec; rw [hp]; simp only; unfold doSt; rw [if_neg (by omega), if_pos hk]
theorem exec_select {db : DB} {text : List UInt8} {s : St} (hp : pParse text = some s) (hk : s.kind = 115) : exec db text = doSelect db s := by
  unfold exec; rw [hp]; simp only; unfold doSt; rw [if_neg (by omega), if_neg (by omega), if_neg (by omega), if_neg (by omega)]
theorem exec_delete {db : DB} {text : List UInt8} {s : St} (hp : pParse text = some s) (hk : s.kind = 100) : exec db text = doDelete db s := by
  unfold exec; rw [hp]; simp only; unfold doSt; rw [if_neg (by omega), if_neg (by omega), if_pos hk]
theorem exec_update {db : DB} {text : List UInt8} {s : St} (hp : pParse text = some s) (hk : s.kind = 117) : exec db text = doUpdate db s := by
  unfold exec; rw [hp]; simp only; unfold doSt; rw [if_neg (by omega), if_neg (by omega), if_neg (by omega), if_pos hk]
theorem doInsert_of {db : DB} {s : St} {i : Nat} {row : List V} (h1 : tabAt db s.table = some i) (h2 : s.items.length = (tabD db i).cols.length) (h3 : tcRow (s.items.map (·.tree)) ((tabD db i).cols.map (·.2)) = none) (h4 : evAll [] [] (s.items.map (·.tree)) = .ok row) (h5 : (tabD db i).rows.length ≠ 25) : doInsert db s = (setRows db i ((tabD db i).rows ++ [row]), ⟨[], 1, 0⟩) := by
  unfold doInsert
  rw [h1]
  simp only
  rw [if_neg (fun h => h h2), h3]
  simp only
  rw [h4]
  simp only
  rw [if_neg h5]
theorem doSelect_of {db : DB} {s : St} {is : List Nat} {cols : List Col} {rows : List (List V)} (h1 : srcsGo db [] s.sources = .ok is) (hc : scopes db is s.sources = cols) (h2 : onsGo db (scopes db (is.take 1) (s.sources.take 1)) (is.drop 1) (s.sources.drop 1) = none) (h3 : tcAll cols (valuesOf s cols) = none) (h4 : tcAs cols (cond s.whr) 3 = none) (h5 : tcAll cols (s.keys.map (·.tree)) = none)
    (h6 : joinsGo db (scopes db (is.take 1) (s.sources.take 1)) (tabD db (is.headD 0)).rows (is.drop 1) (s.sources.drop 1) = .ok rows) : doSelect db s = match chosen cols s rows with
      | .error e => (db, no e)
      | .ok out => (db, ⟨out, 0, 0⟩) := by
  unfold doSelect
  rw [h1]
  simp only
  rw [h2, hc]
  simp only
  rw [h3]
  simp only
  rw [h4]
  simp only
  rw [h5]
  simp only
  rw [h6]
  simp only
  cases chosen cols s rows <;> rfl
def rCreate : List UInt8 := [67, 82, 69, 65, 84, 69, 32, 84, 65, 66, 76, 69, 32, 110, 32, 40, 97, 32, 73, 78, 84, 44, 32, 98, 32, 73, 78, 84, 41]
def rTab (rows : List (List V)) : Tab := ⟨[110], [([97], 1), ([98], 1)], rows⟩
theorem r_create : exec [] rCreate = ([rTab []], ⟨[], 0, 0⟩) := by kernel_rfl
def nV (n : Int) : V := ⟨1, n, []⟩
def rIns (a b : Int) : List UInt8 := [73, 78, 83, 69, 82, 84, 32, 73, 78, 84, 79, 32, 110, 32, 86, 65, 76, 85, 69, 83, 32, 40] ++ (numP a ++ ([44, 32] ++ (numP b ++ [41])))
theorem numP_len {n : Int} (h : in64 n) : (numP n).length ≤ 30 := by
  unfold numP
  split
  · decide
  split
  · have := (dec_ok (n := (-n).toNat) (by unfold in64 at h; omega)).2.2.2; simp; omega
  · have := (dec_ok (n := n.toNat) (by unfold in64 at h; omega)).2.2.2; omega
def numPc (n : Int) : Pc := ⟨numP n, numK n, numT n⟩
theorem numPc_ok {n : Int} (h : in64 n) : (numPc n).ok := ⟨numP_cl h, (numK_vl n).mono (by decide), by
  show numK n ≠ []
  unfold numK; split
  · simp
  split <;> simp⟩
theorem r_name : NameOk [110] := ⟨rfl, rfl, by kernel_rfl⟩
theorem r_insert {a b : Int} (ha : in64 a) (hb : in64 b) : exec [rTab []] (rIns a b) = ([rTab [[nV a, nV b]]], ⟨[], 1, 0⟩) := by
  have e : rIns a b = insText [110] ([numPc a, numPc b].map (·.x)) [] := by simp [rIns, insText, sepJoin, numPc]
  have h1 := numP_len ha
  have h2 := numP_len hb
  have hp := ins_parse r_name (ps := [numPc a, numPc b]) (by intro p hp; simp at hp; rcases hp with rfl | rfl; exact numPc_ok ha; exact numPc_ok hb) (by simp) (tail := []) rfl (by rw [← e]; simp [rIns]; omega)
  rw [e, exec_insert hp rfl]
  have t1 : tabAt [rTab []] [110] = some 0 := by kernel_rfl
  rw [doInsert_of (s := st0 105 [110] ([numPc a, numPc b].map (fun p => itV p.t)) .nil) (i := 0) (row := [nV a, nV b]) t1 rfl ?_ ?_ (by decide)]
  · rfl
  · show tcRow [numT a, numT b] [1, 1] = none
    simp only [tcRow, tcAs, numT_tc]
    rfl
  · show evAll [] [] [numT a, numT b] = _
    simp only [evAll, numT_ev ha, numT_ev hb]
    rfl
/-- SELECT of values from n. -/
def rSel (ts : List T) (wh : T) : St := ⟨115, [], ts.map itV, [⟨[110], [110], 0, .nil, false⟩], wh, [], false, false, -1, 0⟩
def rCols : List Col := [⟨[110], [97], 1⟩, ⟨[110], [98], 1⟩]
theorem r_sel {row : List V} {ts : List T} {wh : T} {text : List UInt8} (hp : pParse text = some (rSel ts wh)) (ht : tcAll rCols ts = none) (hw : tcAs rCols (cond wh) 3 = none) (hwe : ev rCols row (cond wh) = .ok (tru true)) : exec [rTab [row]] text = match evAll rCols row ts with
    | .error e => ([rTab [row]], no e)
    | .ok vs => ([rTab [row]], ⟨[vs], 0, 0⟩) := by
  rw [exec_select hp rfl]
  have t1 : tabAt [rTab [row]] [110] = some 0 := by
    unfold tabAt
    simp [rTab]
  have s1 : srcsGo [rTab [row]] [] (rSel ts wh).sources = .ok [0] := by
    show srcsGo [rTab [row]] [] [⟨[110], [110], 0, .nil, false⟩] = _
    simp [srcsGo, t1]
  have hm : (rSel ts wh).items.map (·.tree) = ts := by
    show (ts.map itV).map (·.tree) = ts
    rw [List.map_map]
    exact (List.map_congr_left (fun t _ => rfl)).trans (List.map_id ts)
  have c1 : scopes [rTab [row]] [0] (rSel ts wh).sources = rCols := rfl
  have hv : valuesOf (rSel ts wh) rCols = ts := by
    unfold valuesOf
    rw [if_neg (by simp [rSel]), hm]
  rw [doSelect_of (s := rSel ts wh) (is := [0]) (cols := rCols) (rows := [row]) s1 c1 rfl (by rw [hv]; exact ht) hw rfl rfl]
  have hch : chosen rCols (rSel ts wh) [row] = match evAll rCols row ts with | .error e => .error e | .ok vs => .ok [vs] := by
    have hs : sift rCols (cond (rSel ts wh).whr) [row] = .ok ([row], []) := by
      show sift rCols (cond wh) [row] = _
      simp only [sift, hwe, if_true]
    unfold chosen
    rw [hs]
    have h2 : evRows rCols ((rSel ts wh).keys.map (·.tree)) [row] = .ok [[]] := rfl
    have h3 : sorted [row] [[]] ((rSel ts wh).keys.map (·.mark)) = [row] := rfl
    simp only
    rw [h2]
    simp only
    rw [h3, hv]
    simp only [evRows]
    cases evAll rCols row ts with
    | error e => rfl
    | ok vs => rfl
  rw [hch]
  cases evAll rCols row ts with
  | error e => rfl
  | ok vs => rfl
def tA : T := tName [] [97]
def tB : T := tName [] [98]
theorem ev_a (a b : Int) : ev rCols [nV a, nV b] tA = .ok (nV a) := rfl
theorem ev_b (a b : Int) : ev rCols [nV a, nV b] tB = .ok (nV b) := rfl
theorem ev_two {op : Nat} {x y : T} {cols : List Col} {row : List V} {u v : V} (h6 : 6 ≤ op) (h16 : op ≤ 16) (hx : ev cols row x = .ok u) (hy : ev cols row y = .ok v) : ev cols row (tTwo op x y) = ap2 op u v := by
  unfold tTwo
  rw [ev]
  rw [if_neg (show ¬ op = 0 by omega), if_neg (show ¬ op = 1 by omega), hx]
  simp only
  rw [if_neg (show ¬ op ≤ 5 by omega), if_neg (fun h => absurd h.1 (show ¬ 17 ≤ op by omega)), hy]
theorem ev_two_err {op : Nat} {x y : T} {cols : List Col} {row : List V} {e : Nat} (h6 : 6 ≤ op) (hx : ev cols row x = .error e) : ev cols row (tTwo op x y) = .error e := by
  unfold tTwo
  rw [ev]
  rw [if_neg (show ¬ op = 0 by omega), if_neg (show ¬ op = 1 by omega), hx]
/-- The statements of Reckoned. -/
def rSum : List UInt8 := [83, 69, 76, 69, 67, 84, 32, 97, 32, 43, 32, 98, 32, 70, 82, 79, 77, 32, 110]
def rDiff : List UInt8 := [83, 69, 76, 69, 67, 84, 32, 97, 32, 45, 32, 98, 32, 70, 82, 79, 77, 32, 110]
def rQuot : List UInt8 := [83, 69, 76, 69, 67, 84, 32, 97, 32, 47, 32, 98, 44, 32, 97, 32, 37, 32, 98, 32, 70, 82, 79, 77, 32, 110]
def rProd : List UInt8 := [83, 69, 76, 69, 67, 84, 32, 40, 97, 32, 47, 32, 98, 41, 32, 42, 32, 98, 32, 43, 32, 97, 32, 37, 32, 98, 32, 70, 82, 79, 77, 32, 110]
def rNeg : List UInt8 := [83, 69, 76, 69, 67, 84, 32, 45, 97, 32, 70, 82, 79, 77, 32, 110]
def rLess : List UInt8 := [83, 69, 76, 69, 67, 84, 32, 97, 32, 60, 32, 98, 32, 70, 82, 79, 77, 32, 110, 32, 87, 72, 69, 82, 69, 32, 97, 32, 61, 32, 97]
def rStar : List UInt8 := [83, 69, 76, 69, 67, 84, 32, 42, 32, 70, 82, 79, 77, 32, 110]
theorem p_sum : pParse rSum = some (rSel [tTwo 6 tA tB] .nil) := by kernel_rfl
theorem p_diff : pParse rDiff = some (rSel [tTwo 7 tA tB] .nil) := by kernel_rfl
theorem p_quot : pParse rQuot = some (rSel [tTwo 9 tA tB, tTwo 10 tA tB] .nil) := by kernel_rfl
theorem p_prod : pParse rProd = some (rSel [tTwo 6 (tTwo 8 (tTwo 9 tA tB) tB) (tTwo 10 tA tB)] .nil) := by kernel_rfl
theorem p_neg : pParse rNeg = some (rSel [tOne 2 tA] .nil) := by kernel_rfl
theorem p_less : pParse rLess = some (rSel [tTwo 13 tA tB] (tTwo 11 tA tA)) := by kernel_rfl
theorem p_star : pParse rStar = some { rSel [] .nil with all := true } := by kernel_rfl
def rDb (a b : Int) : DB := [rTab [[nV a, nV b]]]
def ansOf (o : Out (List V)) : Ans := match o with
  | .error e => no e
  | .ok vs => ⟨[vs], 0, 0⟩
theorem r_ans {a b : Int} {ts : List T} {text : List UInt8} (hp : pParse text = some (rSel ts .nil)) (ht : tcAll rCols ts = none) : exec (rDb a b) text = (rDb a b, ansOf (evAll rCols [nV a, nV b] ts)) := by
  have := r_sel (row := [nV a, nV b]) hp ht (tc_true _) (ev_true _ _)
  unfold rDb
  rw [this]
  cases evAll rCols [nV a, nV b] ts <;> rfl
def one1 : Out V → Out (List V)
  | .error e => .error e
  | .ok v => .ok [v]
theorem ev_one1 {x : T} {o : Out V} {cols : List Col} {row : List V} (h : ev cols row x = o) : evAll cols row [x] = one1 o := by
  unfold evAll
  rw [h]
  cases o with
  | error e => rfl
  | ok v => rfl
theorem ap_of {op : Nat} (a b : Int) (h : op ≤ 10) : ap2 op (nV a) (nV b) = reckon op a b := by
  unfold ap2
  rw [if_neg (by omega), if_neg (by simp [V.miss, nV]), if_pos h]
  rfl
theorem r_two {a b : Int} {op : Nat} {text : List UInt8} (h6 : 6 ≤ op) (h10 : op ≤ 10) (hp : pParse text = some (rSel [tTwo op tA tB] .nil)) (ht : tcAll rCols [tTwo op tA tB] = none) : exec (rDb a b) text = (rDb a b, ansOf (one1 (reckon op a b))) := by
  rw [r_ans hp ht, ev_one1 (ev_two h6 (by omega) (ev_a a b) (ev_b a b)), ap_of a b h10]
def ans64 (n : Int) : Ans := if in64 n then ⟨[[nV n]], 0, 0⟩ else no 4
theorem ranged_in {n : Int} (h : in64 n) : ranged n = .ok (nV n) := by
  unfold ranged; exact if_pos h
theorem ranged_out {n : Int} (h : ¬ in64 n) : ranged n = .error 4 := by
  unfold ranged; exact if_neg h
theorem one_ranged (n : Int) : ansOf (one1 (ranged n)) = ans64 n := by
  unfold ans64
  by_cases h : in64 n
  · rw [ranged_in h, if_pos h]; rfl
  · rw [ranged_out h, if_neg h]; rfl
theorem r_sum (a b : Int) : exec (rDb a b) rSum = (rDb a b, ans64 (a + b)) := by
  rw [r_two (op := 6) (by decide) (by decide) p_sum rfl, ← one_ranged]
  rfl
theorem r_diff (a b : Int) : exec (rDb a b) rDiff = (rDb a b, ans64 (a - b)) := by
  rw [r_two (op := 7) (by decide) (by decide) p_diff rfl, ← one_ranged]
  rfl
theorem r_neg (a b : Int) : exec (rDb a b) rNeg = (rDb a b, ans64 (-a)) := by
  rw [r_ans p_neg rfl, ev_one1 (o := ranged (-a)) rfl, one_ranged]
def quotA (a b : Int) : Ans := if b = 0 then no 5 else if a = -9223372036854775808 ∧ b = -1 then no 4 else ⟨[[nV (Int.tdiv a b), nV (Int.tmod a b)]], 0, 0⟩
theorem tdiv_range {a b : Int} (ha : in64 a) (hb : b ≠ 0) (hn : ¬ (a = -9223372036854775808 ∧ b = -1)) : in64 (Int.tdiv a b) := by
  obtain ⟨h1, h2⟩ := ha
  have h3 : (Int.tdiv a b).natAbs = a.natAbs / b.natAbs := Int.natAbs_tdiv a b
  have h4 : a.natAbs / b.natAbs ≤ a.natAbs := Nat.div_le_self _ _
  unfold in64
  by_cases hab : a.natAbs ≤ 9223372036854775807
  · omega
  · have ea : a = -9223372036854775808 := by omega
    have hb2 : b ≠ -1 := fun h => hn ⟨ea, h⟩
    by_cases hb1 : b = 1
    · subst hb1; simp; omega
    · have : 2 ≤ b.natAbs := by omega
      have h5 : a.natAbs / b.natAbs ≤ a.natAbs / 2 := Nat.div_le_div_left this (by decide)
      have h6 : a.natAbs / 2 = 4611686018427387904 := by rw [ea]; decide
      omega
theorem tdiv_min {a b : Int} (h1 : a = -9223372036854775808) (h2 : b = -1) : ¬ in64 (Int.tdiv a b) := by
  subst h1; subst h2; decide
theorem r_quot {a : Int} (ha : in64 a) (b : Int) : exec (rDb a b) rQuot = (rDb a b, quotA a b) := by
  rw [r_ans p_quot rfl]
  unfold evAll
  rw [ev_two (op := 9) (by decide) (by decide) (ev_a a b) (ev_b a b), ap_of a b (by decide), ev_one1 (ev_two (op := 10) (by decide) (by decide) (ev_a a b) (ev_b a b)), ap_of a b (by decide)]
  unfold quotA
  by_cases hb : b = 0
  · rw [if_pos hb]; subst hb; rfl
  · rw [if_neg hb]
    have e9 : reckon 9 a b = ranged (Int.tdiv a b) := by unfold reckon; simp [hb]
    have e10 : reckon 10 a b = .ok (nV (Int.tmod a b)) := by unfold reckon; simp [hb]; rfl
    rw [e9, e10]
    by_cases hm : a = -9223372036854775808 ∧ b = -1
    · rw [if_pos hm]
      rw [ranged_out (tdiv_min hm.1 hm.2)]
      rfl
    · rw [if_neg hm]
      rw [ranged_in (tdiv_range ha hb hm)]
      rfl
def prodA (a b : Int) : Ans := if b = 0 then no 5 else if a = -9223372036854775808 ∧ b = -1 then no 4 else ⟨[[nV a]], 0, 0⟩
theorem ev_two_ok {op : Nat} {x y : T} {cols : List Col} {row : List V} {u v z : V} (h6 : 6 ≤ op) (h16 : op ≤ 16) (hx : ev cols row x = .ok u) (hy : ev cols row y = .ok v) (hz : ap2 op u v = .ok z) : ev cols row (tTwo op x y) = .ok z := by
  rw [ev_two h6 h16 hx hy, hz]
theorem mul_range {a b : Int} (ha : in64 a) : in64 (Int.tdiv a b * b) := by
  have h1 := Int.tmod_add_mul_tdiv a b
  have h3 : (Int.tdiv a b * b).natAbs ≤ a.natAbs := by
    rw [Int.natAbs_mul, Int.natAbs_tdiv]
    exact Nat.div_mul_le_self _ _
  have h4 : 0 ≤ a → 0 ≤ Int.tdiv a b * b := fun h => by
    have := Int.tmod_add_mul_tdiv a b
    have h5 : Int.tmod a b ≤ a := by
      have := Int.tmod_nonneg b h
      have h6 : (Int.tmod a b).natAbs ≤ a.natAbs := by rw [Int.natAbs_tmod]; exact Nat.mod_le _ _
      omega
    rw [Int.mul_comm]; omega
  have h6 : (Int.tmod a b).natAbs ≤ a.natAbs := by rw [Int.natAbs_tmod]; exact Nat.mod_le _ _
  unfold in64 at ha ⊢
  rw [Int.mul_comm] at h1
  rw [Int.mul_comm] at h4
  by_cases h : 0 ≤ a
  · have := h4 h; omega
  · omega
theorem r_prod {a : Int} (ha : in64 a) (b : Int) : exec (rDb a b) rProd = (rDb a b, prodA a b) := by
  rw [r_ans p_prod rfl]
  have d9 := ev_two (op := 9) (by decide) (by decide) (ev_a a b) (ev_b a b)
  have d10 := ev_two (op := 10) (by decide) (by decide) (ev_a a b) (ev_b a b)
  rw [ap_of a b (by decide)] at d9 d10
  unfold prodA
  by_cases hb : b = 0
  · rw [if_pos hb]
    have e9 : reckon 9 a b = .error 5 := by unfold reckon; simp [hb]
    rw [e9] at d9
    rw [ev_one1 (ev_two_err (op := 6) (by decide) (ev_two_err (op := 8) (by decide) d9))]
    rfl
  · rw [if_neg hb]
    have e9 : reckon 9 a b = ranged (Int.tdiv a b) := by unfold reckon; simp [hb]
    have e10 : reckon 10 a b = .ok (nV (Int.tmod a b)) := by unfold reckon; simp [hb]; rfl
    rw [e9] at d9
    rw [e10] at d10
    by_cases hm : a = -9223372036854775808 ∧ b = -1
    · rw [if_pos hm]
      rw [ranged_out (tdiv_min hm.1 hm.2)] at d9
      rw [ev_one1 (ev_two_err (op := 6) (by decide) (ev_two_err (op := 8) (by decide) d9))]
      rfl
    · rw [if_neg hm]
      rw [ranged_in (tdiv_range ha hb hm)] at d9
      have e8 : ap2 8 (nV (Int.tdiv a b)) (nV b) = .ok (nV (Int.tdiv a b * b)) := by
        rw [ap_of _ _ (by decide)]
        show ranged (Int.tdiv a b * b) = _
        exact ranged_in (mul_range ha)
      have e6 : ap2 6 (nV (Int.tdiv a b * b)) (nV (Int.tmod a b)) = .ok (nV a) := by
        rw [ap_of _ _ (by decide)]
        show ranged (Int.tdiv a b * b + Int.tmod a b) = _
        have : Int.tdiv a b * b + Int.tmod a b = a := by have := Int.tmod_add_mul_tdiv a b; rw [Int.mul_comm]; omega
        rw [this]
        exact ranged_in ha
      rw [ev_one1 (ev_two_ok (op := 6) (by decide) (by decide) (ev_two_ok (op := 8) (by decide) (by decide) d9 (ev_b a b) e8) d10 e6)]
      rfl
theorem r_less (a b : Int) : exec (rDb a b) rLess = (rDb a b, ⟨[[tru (decide (a < b))]], 0, 0⟩) := by
  have hw : ev rCols [nV a, nV b] (cond (tTwo 11 tA tA)) = .ok (tru true) := by
    show ev rCols [nV a, nV b] (tTwo 11 tA tA) = _
    rw [ev_two (by decide) (by decide) (ev_a a b) (ev_a a b)]
    simp [ap2, V.miss, nV, holds, order, Lib.compareInt]
  have := r_sel (row := [nV a, nV b]) p_less rfl rfl hw
  unfold rDb
  rw [this, ev_one1 (ev_two (by decide) (by decide) (ev_a a b) (ev_b a b))]
  have e : ap2 13 (nV a) (nV b) = .ok (tru (decide (a < b))) := by
    have h1 : decide (Lib.compareInt a b < 0) = decide (a < b) := by
      rw [decide_eq_decide]
      unfold Lib.compareInt
      constructor
      · intro h; split at h
        · assumption
        · split at h <;> omega
      · intro h; rw [if_pos h]; decide
    simp [ap2, V.miss, nV, holds, order, h1]
  rw [e]
  rfl
theorem r_star (a b : Int) : exec (rDb a b) rStar = (rDb a b, ⟨[[nV a, nV b]], 0, 0⟩) := by
  rw [exec_select p_star rfl]
  rfl
end Pl
end Go.Proofs.YtojdpjpldokjmaaGreatDoor
