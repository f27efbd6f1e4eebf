/- The code's stable sort of rows without ranks: nothing moves. -/
import Derived.Test.YtojdpjpldokjmaaGreatDoorJ28
namespace Go.Proofs.YtojdpjpldokjmaaGreatDoor
open Go.RowKit Go.Deep
set_option linter.unusedSimpArgs false
set_option linter.unusedVariables false

/-- A ranked row, read. -/
theorem RkW.at_ {w : World} {base g n cap i : Nat} {xs : List Rk} (h : RkW w base (.slice (some ⟨g, 0, none⟩) n cap) xs) (hn : xs.length = n) (hi : i < n) : ∃ x ∈ xs, g < w.heap.size ∧ w.cell? ⟨g, i * 2, none⟩ = some x.rv ∧ w.cell? ⟨g, i * 2 + 1, none⟩ = some x.row := by
  have hx : xs[i]? = some (xs[i]'(by omega)) := List.getElem?_eq_getElem _
  generalize xs[i]'(by omega) = x at *
  refine ⟨x, List.mem_of_getElem? hx, ?_⟩
  rcases h.own.2 with ⟨h0, _⟩ | ⟨g', cap', cur, hv, _, hh, _, _, _, ht⟩
  · cases h0
  · cases hv
    have hcur : ∀ k u, (rksC xs)[k]? = some u → cur[k]? = some u := fun k u hk => by
      rw [← ht, List.getElem?_take] at hk
      split at hk
      · simpa using hk
      · cases hk
    exact ⟨lt_of_blk hh, (blk_cell hh _).trans (hcur _ _ (rksC_at hx).1), (blk_cell hh _).trans (hcur _ _ (rksC_at hx).2)⟩
theorem cmp_none (x y : Rk) : Pl.cmpRanks x.ranks y.ranks (dsOf []) = 0 := by
  show Pl.cmpRanks x.ranks y.ranks [] = 0
  unfold Pl.cmpRanks
  cases x.ranks <;> cases y.ranks <;> rfl
/-- Two rows compared: they are the same. -/
theorem cmpZ (X : MachLib) {x y : Rk} {ob base g n cap : Nat} {xs : List Rk} {wr : World} (h : RkW wr base (.slice (some ⟨g, 0, none⟩) n cap) xs) (hc : CmpIn wr ob []) (hx : x ∈ xs) (hy : y ∈ xs) (hok : ∀ x ∈ xs, RkOk [] [] x) :
    ∀ p : BelOf wr, Calls Tryz.prog 175 #[.agg #[x.rv, x.row], .agg #[y.rv, y.row], .pointer (some ⟨ob, 0, none⟩)] p.val fun e w' => e = .returned (.int .i64 0) ∧ ∃ p' : BelOf wr, w' = p'.val := fun p => by
  have hex := h.each x hx
  have hey := h.each y hy
  have hobz : ob < wr.heap.size := by obtain ⟨kv, hb, _⟩ := hc.box; exact lt_of_blk hb
  have := cmpFnM X x y ob base [] p.val (hc.keep (fun k hk => p.bel.block k (by omega))) ⟨own_below p.bel hex.1, hex.2⟩ ⟨own_below p.bel hey.1, hey.2⟩ (hok x hx).1 (hok y hy).1
  rw [cmp_none] at this
  exact this.mono (fun e w' ⟨he, hb⟩ => ⟨he, ⟨w', p.bel.trans (hb.mono p.bel.size)⟩, rfl⟩)
set_option maxHeartbeats 8000000 in
set_option maxRecDepth 100000 in
theorem symZ1 (X : MachLib) (ob base g cap n : Nat) (xs : List Rk) (hxn : xs.length = n) (hn : n ≤ 1048576) (hok : ∀ x ∈ xs, RkOk [] [] x) (a m b : Nat) (w : World) (ham : a < m) (hmb : m < b) (hbn : b ≤ n) (hW : RkW w base (.slice (some ⟨g, 0, none⟩) n cap) xs) (hC : CmpIn w ob []) (hc1 : m - a = 1) :
    Calls Tryz.prog 259 #[.slice (some ⟨g, 0, none⟩) n cap, .int .i64 (a : Nat), .int .i64 (m : Nat), .int .i64 (b : Nat), cmpFn ob] w fun e w' => e = .returned (.tuple #[]) ∧ Below w.heap.size w w' := by
  have HW := hide hW
  have HC := hide hC
  have HOk := hide hok
  have HXn := hide hxn
  unfold cmpFn at *
  have hent : ∀ (a : Array Value) (w : World), (callFunc 175 a).run Tryz.prog w = .ok (.enter 175 a) w := fun a w => by go_simp
  clear hW hC hok hxn
  have g1 : ((m : Int) - (a : Int) == 1) = true := by simp; omega
  go_enter Tryz.func259, Tryz.ntmps259
  go_wp2_with fail
  go_loopw [10, 11] (fun s10 s11 wr => ∃ j : Nat, s10 = .int .i64 (m : Nat) ∧ s11 = .int .i64 (j : Nat) ∧ m ≤ j ∧ j ≤ b ∧ Hid (Below w.heap.size w wr)) (fun _ a _ => (intOf a).toNat)
  case atStart => exact ⟨b, rfl, rfl, by omega, by omega, Below.refl _ _⟩
  case round =>
    obtain ⟨j, rfl, rfl, hmj, hjb, HI⟩ := hrel
    by_cases hlt : m < j
    · have hti : ((m : Nat) : Int) < ((j : Nat) : Int) := by omega
      obtain ⟨h, hh, hmh, hhj⟩ : ∃ h : Nat, ((m : Int) + (j : Int)) / 2 = (h : Nat) ∧ m ≤ h ∧ h < j := ⟨(m + j) / 2, by omega, by omega, by omega⟩
      have hWr := HW.out.below HI.out
      have hCr := HC.out.keep (fun k hk => HI.out.block k (by obtain ⟨kv, hb, _⟩ := HC.out.box; have := lt_of_blk hb; omega))
      obtain ⟨x, hx, hgz, x0, x1⟩ := hWr.at_ HXn.out (i := h) (by omega)
      obtain ⟨y, hy, _, y0, y1⟩ := hWr.at_ HXn.out (i := a) (by omega)
      obtain ⟨xa, xn, xc, hxr⟩ := own_slice (hWr.each x hx).1
      obtain ⟨ya, yn, yc, hyr⟩ := own_slice (hWr.each y hy).1
      obtain ⟨xra, xrm, xrc, hxw⟩ := (hWr.each x hx).2
      obtain ⟨yra, yrm, yrc, hyw⟩ := (hWr.each y hy).2
      have iB : Inhabited (BelOf wr) := BelOf.first wr
      have HCmp := hide (cmpZ X hWr hCr hx hy HOk.out)
      have py0 := fun p => BelOf.cell hgz y0 p
      have py1 := fun p => BelOf.cell hgz y1 p
      have px0 := fun p => BelOf.cell hgz x0 p
      have px1 := fun p => BelOf.cell hgz x1 p
      rw [hxr, hxw, hyr, hyw] at HCmp
      rw [hxr] at px0
      rw [hxw] at px1
      rw [hyr] at py0
      rw [hyw] at py1
      have hn1 : ((h : Nat) : Int) < ((n : Nat) : Int) := by omega
      have hn2 : ((a : Nat) : Int) < ((n : Nat) : Int) := by omega
      clear x0 x1 y0 y1 hWr hCr hx hy
      go_wp2_with fail
      have iB2 : Inhabited (BelOf wr) := BelOf.first wr
      refine wp_region_bel (by kernel_rfl) (by kernel_rfl) ?_
      repeat (go_big_quiet_step (exact (unhide HCmp) _))
      refine wpQuiet_nil ?_
      intro _ hw'
      obtain ⟨pb, hw''⟩ := hw'
      subst hw''
      have HPb := hide (HI.out.trans (pb.bel.mono HI.out.size))
      clear py0 py1 px0 px1 HCmp
      generalize pb.val = W at *
      clear pb
      go_wp2_with fail
      go_roundw
      case rel => exact ⟨h, rfl, rfl, by omega, by omega, HPb.out⟩
      case measure => simp [intOf]; omega
    · obtain rfl : j = m := by omega
      go_wp2_with fail
      go_loopw [13] (fun s13 wr2 => s13 = .int .i64 (a : Nat) ∧ Hid (Below w.heap.size w wr2)) (fun _ _ => 0)
      case atStart => exact ⟨rfl, HI.out⟩
      case round =>
        obtain ⟨rfl, HJ⟩ := hrel
        have hnl : ¬ ((a : Nat) : Int) < ((j : Nat) : Int) - 1 := by omega
        go_wp2_with fail
        exact bodyPost_ret (v := .tuple #[]) (by simp [results, Tryz.results259, go_sem]) rfl ⟨rfl, HJ.out⟩
set_option maxHeartbeats 8000000 in
set_option maxRecDepth 100000 in
theorem symZ2 (X : MachLib) (ob base g cap n : Nat) (xs : List Rk) (hxn : xs.length = n) (hn : n ≤ 1048576) (hok : ∀ x ∈ xs, RkOk [] [] x) (a m b : Nat) (w : World) (ham : a < m) (hmb : m < b) (hbn : b ≤ n) (hW : RkW w base (.slice (some ⟨g, 0, none⟩) n cap) xs) (hC : CmpIn w ob []) (hc1 : ¬ m - a = 1) (hc2 : b - m = 1) :
    Calls Tryz.prog 259 #[.slice (some ⟨g, 0, none⟩) n cap, .int .i64 (a : Nat), .int .i64 (m : Nat), .int .i64 (b : Nat), cmpFn ob] w fun e w' => e = .returned (.tuple #[]) ∧ Below w.heap.size w w' := by
  have HW := hide hW
  have HC := hide hC
  have HOk := hide hok
  have HXn := hide hxn
  unfold cmpFn at *
  have hent : ∀ (a : Array Value) (w : World), (callFunc 175 a).run Tryz.prog w = .ok (.enter 175 a) w := fun a w => by go_simp
  clear hW hC hok hxn
  have g1 : ((m : Int) - (a : Int) == 1) = false := by simp; omega
  have g2 : ((b : Int) - (m : Int) == 1) = true := by simp; omega
  go_enter Tryz.func259, Tryz.ntmps259
  go_wp2_with fail
  go_loopw [14, 15] (fun s14 s15 wr => ∃ i : Nat, s15 = .int .i64 (m : Nat) ∧ s14 = .int .i64 (i : Nat) ∧ a ≤ i ∧ i ≤ m ∧ Hid (Below w.heap.size w wr)) (fun a _ _ => m - (intOf a).toNat)
  case atStart => exact ⟨a, rfl, rfl, by omega, by omega, Below.refl _ _⟩
  case round =>
    obtain ⟨i, rfl, rfl, hai, him, HI⟩ := hrel
    by_cases hlt : i < m
    · have hti : ((i : Nat) : Int) < ((m : Nat) : Int) := by omega
      obtain ⟨h, hh, hih, hhm⟩ : ∃ h : Nat, ((i : Int) + (m : Int)) / 2 = (h : Nat) ∧ i ≤ h ∧ h < m := ⟨(i + m) / 2, by omega, by omega, by omega⟩
      have hWr := HW.out.below HI.out
      have hCr := HC.out.keep (fun k hk => HI.out.block k (by obtain ⟨kv, hb, _⟩ := HC.out.box; have := lt_of_blk hb; omega))
      obtain ⟨x, hx, hgz, x0, x1⟩ := hWr.at_ HXn.out (i := m) (by omega)
      obtain ⟨y, hy, _, y0, y1⟩ := hWr.at_ HXn.out (i := h) (by omega)
      obtain ⟨xa, xn, xc, hxr⟩ := own_slice (hWr.each x hx).1
      obtain ⟨ya, yn, yc, hyr⟩ := own_slice (hWr.each y hy).1
      obtain ⟨xra, xrm, xrc, hxw⟩ := (hWr.each x hx).2
      obtain ⟨yra, yrm, yrc, hyw⟩ := (hWr.each y hy).2
      have iB : Inhabited (BelOf wr) := BelOf.first wr
      have HCmp := hide (cmpZ X hWr hCr hx hy HOk.out)
      have py0 := fun p => BelOf.cell hgz y0 p
      have py1 := fun p => BelOf.cell hgz y1 p
      have px0 := fun p => BelOf.cell hgz x0 p
      have px1 := fun p => BelOf.cell hgz x1 p
      rw [hxr, hxw, hyr, hyw] at HCmp
      rw [hxr] at px0
      rw [hxw] at px1
      rw [hyr] at py0
      rw [hyw] at py1
      have hn1 : ((m : Nat) : Int) < ((n : Nat) : Int) := by omega
      have hn2 : ((h : Nat) : Int) < ((n : Nat) : Int) := by omega
      clear x0 x1 y0 y1 hWr hCr hx hy
      go_wp2_with fail
      have iB2 : Inhabited (BelOf wr) := BelOf.first wr
      refine wp_region_bel (by kernel_rfl) (by kernel_rfl) ?_
      repeat (go_big_quiet_step (exact (unhide HCmp) _))
      refine wpQuiet_nil ?_
      intro _ hw'
      obtain ⟨pb, hw''⟩ := hw'
      subst hw''
      have HPb := hide (HI.out.trans (pb.bel.mono HI.out.size))
      clear py0 py1 px0 px1 HCmp
      generalize pb.val = W at *
      clear pb
      go_wp2_with fail
      go_roundw
      case rel => exact ⟨h + 1, rfl, by go_num, by omega, by omega, HPb.out⟩
      case measure => simp [intOf]; omega
    · obtain rfl : i = m := by omega
      go_wp2_with fail
      go_loopw [17] (fun s17 wr2 => s17 = .int .i64 (i : Nat) ∧ Hid (Below w.heap.size w wr2)) (fun _ _ => 0)
      case atStart => exact ⟨rfl, HI.out⟩
      case round =>
        obtain ⟨rfl, HJ⟩ := hrel
        go_wp2_with fail
        exact bodyPost_ret (v := .tuple #[]) (by simp [results, Tryz.results259, go_sem]) rfl ⟨rfl, HJ.out⟩
end Go.Proofs.YtojdpjpldokjmaaGreatDoor
/- The code's stable sort of rows without ranks: nothing moves, the general case. -/
namespace Go.Proofs.YtojdpjpldokjmaaGreatDoor
open Go.RowKit Go.Deep
set_option linter.unusedSimpArgs false
set_option linter.unusedVariables false

set_option maxHeartbeats 8000000 in
set_option maxRecDepth 100000 in
theorem symZ3 (X : MachLib) (ob base g cap n : Nat) (xs : List Rk) (hxn : xs.length = n) (hn : n ≤ 1048576) (hok : ∀ x ∈ xs, RkOk [] [] x) (N : Nat) (hIH : ∀ (a m b : Nat) (w : World), b - a ≤ N → a < m → m < b → b ≤ n → RkW w base (.slice (some ⟨g, 0, none⟩) n cap) xs → CmpIn w ob [] → Calls Tryz.prog 259 #[.slice (some ⟨g, 0, none⟩) n cap, .int .i64 (a : Nat), .int .i64 (m : Nat), .int .i64 (b : Nat), cmpFn ob] w fun e w' => e = .returned (.tuple #[]) ∧ Below w.heap.size w w') (a m b : Nat) (w : World) (ham : a < m) (hmb : m < b) (hbn : b ≤ n) (hW : RkW w base (.slice (some ⟨g, 0, none⟩) n cap) xs) (hC : CmpIn w ob []) (hN : b - a ≤ N + 1) (hc1 : ¬ m - a = 1) (hc2 : ¬ b - m = 1) (mid : Nat) (hmid : ((a : Int) + (b : Int)) / 2 = (mid : Nat)) (ham' : a < mid) (hmb' : mid < b) (hmm : mid < m) :
    Calls Tryz.prog 259 #[.slice (some ⟨g, 0, none⟩) n cap, .int .i64 (a : Nat), .int .i64 (m : Nat), .int .i64 (b : Nat), cmpFn ob] w fun e w' => e = .returned (.tuple #[]) ∧ Below w.heap.size w w' := by
  have HIH := hide hIH
  clear hIH
  have HW := hide hW
  have HC := hide hC
  have HOk := hide hok
  have HXn := hide hxn
  unfold cmpFn at *
  have hent : ∀ (a : Array Value) (w : World), (callFunc 175 a).run Tryz.prog w = .ok (.enter 175 a) w := fun a w => by go_simp
  clear hW hC hok hxn
  have g1 : ((m : Int) - (a : Int) == 1) = false := by simp; omega
  have g2 : ((b : Int) - (m : Int) == 1) = false := by simp; omega
  have hmi : ((m : Nat) : Int) > ((mid : Nat) : Int) := by omega
  obtain ⟨s0, hs0, hs0a, hs0b⟩ : ∃ s0 : Nat, ((mid : Nat) : Int) + ((m : Nat) : Int) - ((b : Nat) : Int) = (s0 : Nat) ∧ s0 ≤ mid ∧ s0 + b = mid + m := ⟨mid + m - b, by omega, by omega, by omega⟩
  go_enter Tryz.func259, Tryz.ntmps259
  go_wp2_with fail
  go_loopw [20, 21] (fun s20 s21 wr => ∃ i : Nat, s21 = .int .i64 (mid : Nat) ∧ s20 = .int .i64 (i : Nat) ∧ s0 ≤ i ∧ i ≤ mid ∧ Hid (Below w.heap.size w wr)) (fun a _ _ => mid - (intOf a).toNat)
  case atStart => exact ⟨s0, rfl, rfl, by omega, by omega, Below.refl _ _⟩
  case round =>
    obtain ⟨i, rfl, rfl, hsi, him, HI⟩ := hrel
    by_cases hlt : i < mid
    · have hti : ((i : Nat) : Int) < ((mid : Nat) : Int) := by omega
      obtain ⟨h, hh, hih, hhm⟩ : ∃ h : Nat, ((i : Int) + (mid : Int)) / 2 = (h : Nat) ∧ i ≤ h ∧ h < mid := ⟨(i + mid) / 2, by omega, by omega, by omega⟩
      obtain ⟨q, hq, hqb⟩ : ∃ q : Nat, ((mid : Nat) : Int) + ((m : Nat) : Int) - 1 - ((h : Nat) : Int) = (q : Nat) ∧ q < b := ⟨mid + m - 1 - h, by omega, by omega⟩
      have hWr := HW.out.below HI.out
      have hCr := HC.out.keep (fun k hk => HI.out.block k (by obtain ⟨kv, hb, _⟩ := HC.out.box; have := lt_of_blk hb; omega))
      obtain ⟨x, hx, hgz, x0, x1⟩ := hWr.at_ HXn.out (i := q) (by omega)
      obtain ⟨y, hy, _, y0, y1⟩ := hWr.at_ HXn.out (i := h) (by omega)
      obtain ⟨xa, xn, xc, hxr⟩ := own_slice (hWr.each x hx).1
      obtain ⟨ya, yn, yc, hyr⟩ := own_slice (hWr.each y hy).1
      obtain ⟨xra, xrm, xrc, hxw⟩ := (hWr.each x hx).2
      obtain ⟨yra, yrm, yrc, hyw⟩ := (hWr.each y hy).2
      have iB : Inhabited (BelOf wr) := BelOf.first wr
      have HCmp := hide (cmpZ X hWr hCr hx hy HOk.out)
      have py0 := fun p => BelOf.cell hgz y0 p
      have py1 := fun p => BelOf.cell hgz y1 p
      have px0 := fun p => BelOf.cell hgz x0 p
      have px1 := fun p => BelOf.cell hgz x1 p
      rw [hxr, hxw, hyr, hyw] at HCmp
      rw [hxr] at px0
      rw [hxw] at px1
      rw [hyr] at py0
      rw [hyw] at py1
      have hn1 : ((q : Nat) : Int) < ((n : Nat) : Int) := by omega
      have hn2 : ((h : Nat) : Int) < ((n : Nat) : Int) := by omega
      clear x0 x1 y0 y1 hWr hCr hx hy
      go_wp2_with fail
      have iB2 : Inhabited (BelOf wr) := BelOf.first wr
      refine wp_region_bel (by kernel_rfl) (by kernel_rfl) ?_
      repeat (go_big_quiet_step (exact (unhide HCmp) _))
      refine wpQuiet_nil ?_
      intro _ hw'
      obtain ⟨pb, hw''⟩ := hw'
      subst hw''
      have HPb := hide (HI.out.trans (pb.bel.mono HI.out.size))
      clear py0 py1 px0 px1 HCmp
      generalize pb.val = W at *
      clear pb
      go_wp2_with fail
      go_roundw
      case rel => exact ⟨h + 1, rfl, by go_num, by omega, by omega, HPb.out⟩
      case measure => simp [intOf]; omega
    · obtain rfl : i = mid := by omega
      have he : ((i : Nat) : Int) + ((m : Nat) : Int) - ((i : Nat) : Int) = ((m : Nat) : Int) := by omega
      have HR := hide (HIH.out i m b wr (by omega) (by omega) (by omega) (by omega) (HW.out.below HI.out) (HC.out.keep (fun k hk => HI.out.block k (by obtain ⟨kv, hb, _⟩ := HC.out.box; have := lt_of_blk hb; omega))))
      have t1 : ((i : Nat) : Int) < ((m : Nat) : Int) := by omega
      have t2 : ((a : Nat) : Int) < ((i : Nat) : Int) := by omega
      have t3 : ((m : Nat) : Int) < ((b : Nat) : Int) := by omega
      go_wp2_with fail
      refine (unhide HR).mono ?_
      rintro e w5 ⟨rfl, hb5⟩
      have HE := hide (HI.out.trans (hb5.mono HI.out.size))
      clear hb5 HR
      go_wp2_with fail
      exact bodyPost_end (v := .tuple #[]) (by simp [results, Tryz.results259, go_sem]) rfl ⟨rfl, HE.out⟩
set_option maxHeartbeats 8000000 in
set_option maxRecDepth 100000 in
theorem symZ4 (X : MachLib) (ob base g cap n : Nat) (xs : List Rk) (hxn : xs.length = n) (hn : n ≤ 1048576) (hok : ∀ x ∈ xs, RkOk [] [] x) (N : Nat) (hIH : ∀ (a m b : Nat) (w : World), b - a ≤ N → a < m → m < b → b ≤ n → RkW w base (.slice (some ⟨g, 0, none⟩) n cap) xs → CmpIn w ob [] → Calls Tryz.prog 259 #[.slice (some ⟨g, 0, none⟩) n cap, .int .i64 (a : Nat), .int .i64 (m : Nat), .int .i64 (b : Nat), cmpFn ob] w fun e w' => e = .returned (.tuple #[]) ∧ Below w.heap.size w w') (a m b : Nat) (w : World) (ham : a < m) (hmb : m < b) (hbn : b ≤ n) (hW : RkW w base (.slice (some ⟨g, 0, none⟩) n cap) xs) (hC : CmpIn w ob []) (hN : b - a ≤ N + 1) (hc1 : ¬ m - a = 1) (hc2 : ¬ b - m = 1) (mid : Nat) (hmid : ((a : Int) + (b : Int)) / 2 = (mid : Nat)) (ham' : a < mid) (hmb' : mid < b) (hmm : ¬ mid < m) :
    Calls Tryz.prog 259 #[.slice (some ⟨g, 0, none⟩) n cap, .int .i64 (a : Nat), .int .i64 (m : Nat), .int .i64 (b : Nat), cmpFn ob] w fun e w' => e = .returned (.tuple #[]) ∧ Below w.heap.size w w' := by
  have HIH := hide hIH
  clear hIH
  have HW := hide hW
  have HC := hide hC
  have HOk := hide hok
  have HXn := hide hxn
  unfold cmpFn at *
  have hent : ∀ (a : Array Value) (w : World), (callFunc 175 a).run Tryz.prog w = .ok (.enter 175 a) w := fun a w => by go_simp
  clear hW hC hok hxn
  have g1 : ((m : Int) - (a : Int) == 1) = false := by simp; omega
  have g2 : ((b : Int) - (m : Int) == 1) = false := by simp; omega
  have hmi : ¬ ((m : Nat) : Int) > ((mid : Nat) : Int) := by omega
  go_enter Tryz.func259, Tryz.ntmps259
  go_wp2_with fail
  go_loopw [20, 21] (fun s20 s21 wr => ∃ i : Nat, s21 = .int .i64 (m : Nat) ∧ s20 = .int .i64 (i : Nat) ∧ a ≤ i ∧ i ≤ m ∧ Hid (Below w.heap.size w wr)) (fun a _ _ => m - (intOf a).toNat)
  case atStart => exact ⟨a, rfl, rfl, by omega, by omega, Below.refl _ _⟩
  case round =>
    obtain ⟨i, rfl, rfl, hai, him, HI⟩ := hrel
    by_cases hlt : i < m
    · have hti : ((i : Nat) : Int) < ((m : Nat) : Int) := by omega
      obtain ⟨h, hh, hih, hhm⟩ : ∃ h : Nat, ((i : Int) + (m : Int)) / 2 = (h : Nat) ∧ i ≤ h ∧ h < m := ⟨(i + m) / 2, by omega, by omega, by omega⟩
      obtain ⟨q, hq, hqb⟩ : ∃ q : Nat, ((mid : Nat) : Int) + ((m : Nat) : Int) - 1 - ((h : Nat) : Int) = (q : Nat) ∧ q < b := ⟨mid + m - 1 - h, by omega, by omega⟩
      have hWr := HW.out.below HI.out
      have hCr := HC.out.keep (fun k hk => HI.out.block k (by obtain ⟨kv, hb, _⟩ := HC.out.box; have := lt_of_blk hb; omega))
      obtain ⟨x, hx, hgz, x0, x1⟩ := hWr.at_ HXn.out (i := q) (by omega)
      obtain ⟨y, hy, _, y0, y1⟩ := hWr.at_ HXn.out (i := h) (by omega)
      obtain ⟨xa, xn, xc, hxr⟩ := own_slice (hWr.each x hx).1
      obtain ⟨ya, yn, yc, hyr⟩ := own_slice (hWr.each y hy).1
      obtain ⟨xra, xrm, xrc, hxw⟩ := (hWr.each x hx).2
      obtain ⟨yra, yrm, yrc, hyw⟩ := (hWr.each y hy).2
      have iB : Inhabited (BelOf wr) := BelOf.first wr
      have HCmp := hide (cmpZ X hWr hCr hx hy HOk.out)
      have py0 := fun p => BelOf.cell hgz y0 p
      have py1 := fun p => BelOf.cell hgz y1 p
      have px0 := fun p => BelOf.cell hgz x0 p
      have px1 := fun p => BelOf.cell hgz x1 p
      rw [hxr, hxw, hyr, hyw] at HCmp
      rw [hxr] at px0
      rw [hxw] at px1
      rw [hyr] at py0
      rw [hyw] at py1
      have hn1 : ((q : Nat) : Int) < ((n : Nat) : Int) := by omega
      have hn2 : ((h : Nat) : Int) < ((n : Nat) : Int) := by omega
      clear x0 x1 y0 y1 hWr hCr hx hy
      go_wp2_with fail
      have iB2 : Inhabited (BelOf wr) := BelOf.first wr
      refine wp_region_bel (by kernel_rfl) (by kernel_rfl) ?_
      repeat (go_big_quiet_step (exact (unhide HCmp) _))
      refine wpQuiet_nil ?_
      intro _ hw'
      obtain ⟨pb, hw''⟩ := hw'
      subst hw''
      have HPb := hide (HI.out.trans (pb.bel.mono HI.out.size))
      clear py0 py1 px0 px1 HCmp
      generalize pb.val = W at *
      clear pb
      go_wp2_with fail
      go_roundw
      case rel => exact ⟨h + 1, rfl, by go_num, by omega, by omega, HPb.out⟩
      case measure => simp [intOf]; omega
    · obtain rfl : i = m := by omega
      have he : ((mid : Nat) : Int) + ((i : Nat) : Int) - ((i : Nat) : Int) = ((mid : Nat) : Int) := by omega
      have t2 : ((a : Nat) : Int) < ((i : Nat) : Int) := by omega
      by_cases hms : i < mid
      · have t1 : ((i : Nat) : Int) < ((mid : Nat) : Int) := by omega
        have HR := hide (HIH.out a i mid wr (by omega) (by omega) (by omega) (by omega) (HW.out.below HI.out) (HC.out.keep (fun k hk => HI.out.block k (by obtain ⟨kv, hb, _⟩ := HC.out.box; have := lt_of_blk hb; omega))))
        go_wp2_with fail
        refine (unhide HR).mono ?_
        rintro e w5 ⟨rfl, hb5⟩
        have HE := hide (HI.out.trans (hb5.mono HI.out.size))
        clear hb5 HR
        go_wp2_with fail
        exact bodyPost_end (v := .tuple #[]) (by simp [results, Tryz.results259, go_sem]) rfl ⟨rfl, HE.out⟩
      · have t1 : ¬ ((i : Nat) : Int) < ((mid : Nat) : Int) := by omega
        have HE := hide HI.out
        go_wp2_with fail
        exact bodyPost_end (v := .tuple #[]) (by simp [results, Tryz.results259, go_sem]) rfl ⟨rfl, HE.out⟩
theorem symZ (X : MachLib) (ob base g cap n : Nat) (xs : List Rk) (hxn : xs.length = n) (hn : n ≤ 1048576) (hok : ∀ x ∈ xs, RkOk [] [] x) : ∀ (N a m b : Nat) (w : World), b - a ≤ N → a < m → m < b → b ≤ n → RkW w base (.slice (some ⟨g, 0, none⟩) n cap) xs → CmpIn w ob [] →
    Calls Tryz.prog 259 #[.slice (some ⟨g, 0, none⟩) n cap, .int .i64 (a : Nat), .int .i64 (m : Nat), .int .i64 (b : Nat), cmpFn ob] w fun e w' => e = .returned (.tuple #[]) ∧ Below w.heap.size w w'
  | 0, a, m, b, w, h1, h2, h3, _, _, _ => by omega
  | N + 1, a, m, b, w, hN, ham, hmb, hbn, hW, hC => by
    have hIH := symZ X ob base g cap n xs hxn hn hok N
    by_cases hc1 : m - a = 1
    · exact symZ1 X ob base g cap n xs hxn hn hok a m b w ham hmb hbn hW hC hc1
    · by_cases hc2 : b - m = 1
      · exact symZ2 X ob base g cap n xs hxn hn hok a m b w ham hmb hbn hW hC hc1 hc2
      · obtain ⟨mid, hmid, ham', hmb'⟩ : ∃ mid : Nat, ((a : Int) + (b : Int)) / 2 = (mid : Nat) ∧ a < mid ∧ mid < b := ⟨(a + b) / 2, by omega, by omega, by omega⟩
        by_cases hmm : mid < m
        · exact symZ3 X ob base g cap n xs hxn hn hok N hIH a m b w ham hmb hbn hW hC hN hc1 hc2 mid hmid ham' hmb' hmm
        · exact symZ4 X ob base g cap n xs hxn hn hok N hIH a m b w ham hmb hbn hW hC hN hc1 hc2 mid hmid ham' hmb' hmm
end Go.Proofs.YtojdpjpldokjmaaGreatDoor
/- The code's stable sort of rows without ranks: of any number of rows. -/
namespace Go.Proofs.YtojdpjpldokjmaaGreatDoor
open Go.RowKit Go.Deep
set_option linter.unusedSimpArgs false
set_option linter.unusedVariables false

theorem isort_z {le : Rk → Rk → Bool} (h : ∀ a b, le a b = true) : ∀ l : List Rk, Pl.isort le l = l
  | [] => rfl
  | x :: xs => by
    rw [Pl.isort, isort_z h xs]
    cases xs with
    | nil => rfl
    | cons y ys => rw [Pl.ins, if_pos (h x y)]
theorem leT_nil (a b : Rk) : leT [] a b = true := by
  unfold leT
  rfl
theorem insAt_z (xs : List Rk) (a b : Nat) (hab : a ≤ b) : insAt [] xs a b = xs := by
  unfold insAt
  rw [isort_z leT_nil]
  have h : (xs.drop a).take (b - a) ++ xs.drop b = xs.drop a := by
    have := List.take_append_drop (b - a) (xs.drop a)
    rw [List.drop_drop, show a + (b - a) = b by omega] at this
    exact this
  rw [h, List.take_append_drop]
theorem keeps_cmp {w wr : World} {g ob : Nat} {ks : List Key} (h : Keeps g w wr) (hg : ob < g) (hc : CmpIn w ob ks) : CmpIn wr ob ks := hc.keep (fun k hk => h.block k (by obtain ⟨kv, hb, _⟩ := hc.box; have := lt_of_blk hb; omega) (by omega))
set_option maxHeartbeats 8000000 in
set_option maxRecDepth 100000 in
theorem stableCmpZ (X : MachLib) (ob base g cap n : Nat) (xs : List Rk) (w : World) (hxn : xs.length = n) (hn : n ≤ 1048576) (h0 : 1 ≤ n) (hW : RkW w base (.slice (some ⟨g, 0, none⟩) n cap) xs) (hC : CmpIn w ob []) (hob : ob < base) (hbg : base ≤ g) (hok : ∀ x ∈ xs, RkOk [] [] x) :
    Calls Tryz.prog 229 #[.slice (some ⟨g, 0, none⟩) n cap, .int .i64 (n : Nat), cmpFn ob] w fun e w' => e = .returned (.tuple #[]) ∧ RkW w' base (.slice (some ⟨g, 0, none⟩) n cap) xs ∧ Keeps g w w' := by
  have HIns : Hid (∀ a b wr, a ≤ b → b ≤ n → RkW wr base (.slice (some ⟨g, 0, none⟩) n cap) xs ∧ Keeps g w wr → Calls Tryz.prog 258 #[.slice (some ⟨g, 0, none⟩) n cap, .int .i64 (a : Nat), .int .i64 (b : Nat), cmpFn ob] wr fun e w' => e = .returned (.tuple #[]) ∧ RkW w' base (.slice (some ⟨g, 0, none⟩) n cap) xs ∧ Keeps g w w') := fun a b wr hab hbn ⟨h1, h2⟩ => by
    refine (insM X [] [] rfl ob base g cap a b n xs wr hab hbn hxn hn h1 (keeps_cmp h2 (by omega) hC) (by omega) hok).mono ?_
    rintro e w' ⟨rfl, h3, h4⟩
    rw [insAt_z xs a b hab] at h3
    exact ⟨rfl, h3, h2.trans h4⟩
  have HSym : Hid (∀ a m b wr, a < m → m < b → b ≤ n → RkW wr base (.slice (some ⟨g, 0, none⟩) n cap) xs ∧ Keeps g w wr → Calls Tryz.prog 259 #[.slice (some ⟨g, 0, none⟩) n cap, .int .i64 (a : Nat), .int .i64 (m : Nat), .int .i64 (b : Nat), cmpFn ob] wr fun e w' => e = .returned (.tuple #[]) ∧ RkW w' base (.slice (some ⟨g, 0, none⟩) n cap) xs ∧ Keeps g w w') := fun a m b wr h1 h2 h3 ⟨h4, h5⟩ => by
    refine (symZ X ob base g cap n xs hxn hn hok (b - a) a m b wr (Nat.le_refl _) h1 h2 h3 h4 (keeps_cmp h5 (by omega) hC)).mono ?_
    rintro e w' ⟨rfl, hb⟩
    exact ⟨rfl, h4.below hb, h5.below hb⟩
  have HI0 : Hid (RkW w base (.slice (some ⟨g, 0, none⟩) n cap) xs ∧ Keeps g w w) := ⟨hW, Keeps.refl _ _⟩
  clear hW hC hok hxn X hob hbg
  generalize RkW = RK at *
  generalize cmpFn ob = cf at *
  go_enter Tryz.func229, Tryz.ntmps229
  go_wp2_with fail
  go_loopw [7, 8] (fun s7 s8 wr => ∃ a b : Nat, s7 = .int .i64 (a : Nat) ∧ s8 = .int .i64 (b : Nat) ∧ Hid (b = a + 20) ∧ a ≤ n ∧ Hid (RK wr base (.slice (some ⟨g, 0, none⟩) n cap) xs ∧ Keeps g w wr)) (fun _ s _ => n + 21 - (intOf s).toNat)
  case atStart => exact ⟨0, 20, rfl, rfl, rfl, Nat.zero_le _, HI0.out⟩
  case round =>
    obtain ⟨a, b, rfl, rfl, HAb, han, HI⟩ := hrel
    have hab : a ≤ b := by have := HAb.out; omega
    have hab2 : a < b := by have := HAb.out; omega
    clear HI0
    by_cases hlt : b ≤ n
    · have hti : ((b : Nat) : Int) ≤ ((n : Nat) : Int) := by omega
      have HR := hide (HIns.out a b wr (by omega) hlt HI.out)
      go_wp2_with fail
      refine (unhide HR).mono ?_
      rintro e w1 ⟨rfl, h1⟩
      have H1 := hide h1
      clear h1 HR
      go_wp2_with fail
      go_roundw
      case rel => exact ⟨b, b + 20, rfl, by go_num, rfl, hlt, H1.out⟩
      case measure => simp [intOf]; omega
    · have hti : ¬ ((b : Nat) : Int) ≤ ((n : Nat) : Int) := by omega
      have HR := hide (HIns.out a n wr han (Nat.le_refl _) HI.out)
      go_wp2_with fail
      refine (unhide HR).mono ?_
      rintro e w1 ⟨rfl, h1⟩
      have H1 := hide h1
      clear h1 HR HI
      go_wp2_with fail
      go_loopw [6, 7, 8, 9] (fun s6 _ _ _ wr => ∃ bs : Nat, s6 = .int .i64 (bs : Nat) ∧ 20 ≤ bs ∧ bs ≤ 2 * n + 20 ∧ Hid (RK wr base (.slice (some ⟨g, 0, none⟩) n cap) xs ∧ Keeps g w wr)) (fun s _ _ _ _ => n - (intOf s).toNat)
      case atStart => exact ⟨20, rfl, by omega, by omega, H1.out⟩
      case round =>
        obtain ⟨bs, rfl, hbs, hbn, HI⟩ := hrel
        by_cases hlt2 : bs < n
        · have hti2 : ((bs : Nat) : Int) < ((n : Nat) : Int) := by omega
          go_wp2_with fail
          go_loopw [7, 8] (fun s7 s8 wr => ∃ a b : Nat, s7 = .int .i64 (a : Nat) ∧ s8 = .int .i64 (b : Nat) ∧ Hid (b = a + 2 * bs) ∧ a ≤ n ∧ Hid (RK wr base (.slice (some ⟨g, 0, none⟩) n cap) xs ∧ Keeps g w wr)) (fun _ s _ => n + 2 * bs + 1 - (intOf s).toNat)
          case atStart => exact ⟨0, 2 * bs, rfl, by go_num, (Nat.zero_add _).symm, Nat.zero_le _, HI.out⟩
          case round =>
            obtain ⟨a2, b2, rfl, rfl, HAb2, han2, HJ⟩ := hrel
            have hab3 : a2 + bs < b2 := by have := HAb2.out; omega
            have hab4 : b2 ≤ a2 + 2 * bs := by have := HAb2.out; omega
            by_cases hlt3 : b2 ≤ n
            · have hti3 : ((b2 : Nat) : Int) ≤ ((n : Nat) : Int) := by omega
              have HR := hide (HSym.out a2 (a2 + bs) b2 wr (by omega) (by omega) hlt3 HJ.out)
              rw [Int.natCast_add] at HR
              go_wp2_with fail
              refine (unhide HR).mono ?_
              rintro e w2 ⟨rfl, h2⟩
              have H2 := hide h2
              clear h2 HR
              go_wp2_with fail
              go_roundw
              case rel => exact ⟨b2, b2 + 2 * bs, rfl, by go_num, rfl, hlt3, H2.out⟩
              case measure => simp [intOf]; omega
            · have hti3 : ¬ ((b2 : Nat) : Int) ≤ ((n : Nat) : Int) := by omega
              by_cases hmn : a2 + bs < n
              · have hti4 : ((a2 : Nat) : Int) + ((bs : Nat) : Int) < ((n : Nat) : Int) := by omega
                have HR := hide (HSym.out a2 (a2 + bs) n wr (by omega) hmn (Nat.le_refl _) HJ.out)
                rw [Int.natCast_add] at HR
                go_wp2_with fail
                refine (unhide HR).mono ?_
                rintro e w2 ⟨rfl, h2⟩
                have H2 := hide h2
                clear h2 HR
                go_wp2_with fail
                go_roundw
                case rel => exact ⟨bs * 2, by go_num, by omega, by omega, H2.out⟩
                case measure => simp [intOf]; omega
              · have hti4 : ¬ ((a2 : Nat) : Int) + ((bs : Nat) : Int) < ((n : Nat) : Int) := by omega
                go_wp2_with fail
                go_roundw
                case rel => exact ⟨bs * 2, by go_num, by omega, by omega, HJ.out⟩
                case measure => simp [intOf]; omega
        · have hti2 : ¬ ((bs : Nat) : Int) < ((n : Nat) : Int) := by omega
          go_wp2_with fail
          exact bodyPost_end (v := .tuple #[]) (by simp [results, Tryz.results229, go_sem]) rfl ⟨rfl, HI.out⟩
end Go.Proofs.YtojdpjpldokjmaaGreatDoor
/- The code's stable sort of rows without ranks, as the keeps want it. -/
namespace Go.Proofs.YtojdpjpldokjmaaGreatDoor
open Go.RowKit Go.Deep
set_option linter.unusedSimpArgs false
set_option linter.unusedVariables false

theorem stableZ (X : MachLib) : StableM 1048576 0 := by
  intro ks tys ob base v xs w hL htl hn hW hC hob hok
  obtain rfl : ks = [] := List.length_eq_zero_iff.1 (by omega)
  obtain rfl : tys = [] := List.length_eq_zero_iff.1 (by simpa using htl)
  by_cases h19 : xs.length ≤ 19
  · exact stable20 X (L := 0) [] [] ob base v xs w (by simp) rfl h19 hW hC hob hok
  · rw [isort_z leT_nil]
    rcases hW.own.2 with ⟨rfl, h0⟩ | ⟨g, cap, cur, rfl, hb, hg, _⟩
    · omega
    · have hP : ∀ e w', (fun (e : Ending) (w' : World) => e = .returned (.tuple #[]) ∧ RkW w' base (.slice (some ⟨g, 0, none⟩) xs.length cap) xs ∧ Below base w w') e w' → e = .returned (.tuple #[]) := fun e w' h => h.1
      refine sortStable_of _ hP (some ⟨g, 0, none⟩) cap xs.length _ w ((stableCmpZ X ob base g cap xs.length xs w rfl hn (by omega) hW hC hob hb hok).mono ?_)
      rintro e w' ⟨rfl, h1, h2⟩
      exact ⟨rfl, h1, keeps_below' h2 hb (by have := lt_of_blk hg; omega)⟩
end Go.Proofs.YtojdpjpldokjmaaGreatDoor
