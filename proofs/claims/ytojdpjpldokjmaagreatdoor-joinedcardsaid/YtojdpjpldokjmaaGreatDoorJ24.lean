/- The code's machine: a program's run. -/
import Derived.Test.YtojdpjpldokjmaaGreatDoorJ20
namespace Go.Proofs.YtojdpjpldokjmaaGreatDoor
open Go.RowKit Go.Deep
set_option linter.unusedSimpArgs false
set_option linter.unusedVariables false

/-- The loop's beginning: the program's box, the result's, the stack's. -/
def run0 (w : World) (cv : Value) : World := ((w.alloc (.cells #[cv] 204)).alloc (.cells #[.int .i64 0, .int .i64 0, .string ⟨#[]⟩] 34)).alloc (.cells #[.slice none 0 0] 332)
theorem run0_size (w : World) (cv : Value) : (run0 w cv).heap.size = w.heap.size + 3 := by simp [run0]
theorem run0_below (w : World) (cv : Value) : Below w.heap.size w (run0 w cv) := (((Below.refl w.heap.size w).alloc (Nat.le_refl _) _).alloc (by simp) _).alloc (by simp; omega) _
theorem run0_box (w : World) (cv : Value) : (run0 w cv).heap[w.heap.size]? = some (.cells #[cv] 204) ∧ (run0 w cv).heap[w.heap.size + 1]? = some (.cells #[.int .i64 0, .int .i64 0, .string ⟨#[]⟩] 34) ∧ (run0 w cv).heap[w.heap.size + 1 + 1]? = some (.cells #[.slice none 0 0] 332) := by
  refine ⟨blk_alloc (blk_alloc (blk_new _ _) _) _, blk_alloc (blk_new' _ _ _ (by simp)) _, blk_new' _ _ _ (by simp)⟩
/-- What the boxes hold all along. -/
theorem RunI.boxes {w wr : World} {cv : Value} {code : List Pl.Ins} {row : List Pl.V} {x : Pl.Out Pl.V} {g i : Nat} {st : List Pl.V} (h : RunI (run0 w cv) wr (w.heap.size + 1 + 1) (w.heap.size + 1 + 1 + 1) code row x g i st) :
    wr.heap[w.heap.size]? = some (.cells #[cv] 204) ∧ wr.heap[w.heap.size + 1]? = some (.cells #[.int .i64 0, .int .i64 0, .string ⟨#[]⟩] 34) ∧ w.heap.size + 1 + 1 < wr.heap.size ∧ (∀ k, k < w.heap.size → wr.heap[k]? = w.heap[k]?) := by
  obtain ⟨h1, h2, h3⟩ := run0_box w cv
  have hk := h.2.1
  have hs := hk.size
  rw [run0_size] at hs
  refine ⟨by rw [hk.block _ (by omega) (by omega)]; exact h1, by rw [hk.block _ (by omega) (by omega)]; exact h2, by omega, fun k hlt => ?_⟩
  rw [hk.block k (by omega) (by omega)]
  exact (run0_below w cv).block k hlt

theorem RunI.next {w0 wr w2 : World} {sb base : Nat} {code : List Pl.Ins} {row : List Pl.V} {x : Pl.Out Pl.V} {fl i i2 : Nat} {st st2 : List Pl.V} (h : RunI w0 wr sb base code row x (fl + 1) i st) (hk : KB base sb wr w2) (hs : StkW w2 sb base w2.heap.size st2) (hok : ∀ v ∈ st2, Pl.okV v) (hl : st2.length ≤ st.length + 1) (hm : Pl.mrun code row fl i2 st2 = some x) : RunI w0 w2 sb base code row x fl i2 st2 :=
  ⟨hs, h.2.1.trans hk, hok, by have := h.2.2.2.1; omega, hm⟩
theorem run_below {w w2 : World} {cv : Value} (h : KB (w.heap.size + 1 + 1 + 1) (w.heap.size + 1 + 1) (run0 w cv) w2) : Below w.heap.size w w2 := by
  have h0 := run0_below w cv
  exact ⟨h.os.trans h0.os, h.tape.trans h0.tape, h.output.trans h0.output, Nat.le_trans h0.size h.size, fun k hk => (h.block k (by omega) (by omega)).trans (h0.block k hk)⟩

set_option maxHeartbeats 4000000 in
set_option maxRecDepth 100000 in
theorem runM (X : MachLib) (code : List Pl.Ins) (row : List Pl.V) (hc : ∀ c ∈ code, Pl.okV c.v ∧ c.kind ≤ 20) (hcl : code.length ≤ 1048576) (hr : Pl.okRow row) (f : Nat) (hf : f ≤ 1048576) (x : Pl.Out Pl.V) (hx : Pl.mrun code row f 0 [] = some x) (cv rv : Value) (w : World) (hcv : RowsW w w.heap.size 5 insC code cv) (hrv : RowsW w w.heap.size 3 vC row rv) : Calls Tryz.prog 162 #[.agg #[cv], rv] w fun e w' => e = .returned (outV x) ∧ Below w.heap.size w w' := by
  have HC := hide hcv
  have HR := hide hrv
  have HOC := hide hc
  have HOR := hide hr
  have hcs : ∃ a cap, cv = .slice a code.length cap := by obtain ⟨a, cap, h, _⟩ := hcv; exact ⟨a, cap, h⟩
  have hrs : ∃ a cap, rv = .slice a row.length cap := by obtain ⟨a, cap, h, _⟩ := hrv; exact ⟨a, cap, h⟩
  obtain ⟨ca, cc, rfl⟩ := hcs
  obtain ⟨ra, rc, rfl⟩ := hrs
  have HI : Hid (RunI (run0 w (.slice ca code.length cc)) (run0 w (.slice ca code.length cc)) (w.heap.size + 1 + 1) (w.heap.size + 1 + 1 + 1) code row x f 0 []) := by
    refine ⟨⟨by omega, by rw [run0_size]; omega, Nat.le_refl _, by simp, _, (run0_box w _).2.2, World.ownsRow_nil _ _ _ _, fun k hk => by cases hk⟩, KB.refl _ _ _, by simp, by simpa using hf, hx⟩
  clear hcv hrv hc hr hx hf
  go_enter Tryz.func162, Tryz.ntmps162
  go_wp2_with fail
  go_loopg [7] f (fun g s7 wr => ∃ i st, s7 = .int .i64 ((i : Nat) : Int) ∧ Hid (RunI (run0 w (.slice ca code.length cc)) wr (w.heap.size + 1 + 1) (w.heap.size + 1 + 1 + 1) code row x g i st))
  case atStart => exact ⟨0, [], rfl, HI⟩
  case round =>
    obtain ⟨i, st, rfl, HR1⟩ := hrel
    clear HI
    obtain ⟨hb0, hb1, hz, hlow⟩ := HR1.out.boxes
    have c0 := blk_cell hb0 0
    simp at c0
    have HB1 := hide hb1
    have HLow := hide hlow
    have hz0 : w.heap.size < wr.heap.size := by omega
    have hz1 : w.heap.size + 1 < wr.heap.size := by omega
    clear hb0 hb1 hlow
    by_cases hi : i < code.length
    · have hci : code[i]? = some code[i] := List.getElem?_eq_getElem hi
      have hw1 : wrap64 ((i : Int) + 1) = i + 1 := by unfold wrap64; omega
      obtain ⟨hck, hckk⟩ := HOC.out _ (List.getElem_mem hi)
      generalize code[i] = c at *
      obtain ⟨g, cap, he, hg, e0, e1, e2, e3, e4⟩ := (HC.out.keep HLow.out).ins hci
      cases he
      have hgz : g < wr.heap.size := by omega
      obtain ⟨fl, rfl, hcase⟩ := Pl.run_step HR1.out.2.2.2.2 hci
      rcases hcase with ⟨hk, hm⟩ | ⟨hk, hpl, hm⟩ | ⟨v, st1, rfl, hk, hm⟩ | ⟨v, st1, rfl, hk4, hk7, hm⟩ | ⟨v, u, st1, rfl, hk8, hm⟩
      · have HPu := hide (fun w' (k : StkW w' (w.heap.size + 1 + 1) (w.heap.size + 1 + 1 + 1) wr.heap.size st) => pushS c.v st _ _ _ w' k (by have := HR1.out.2.2.2.1; omega))
        unfold vV at HPu
        rw [hk] at e0
        go_wp2_with fail
        refine ((unhide HPu) _ (HR1.out.1.below ((Below.refl wr.heap.size wr).alloc (Nat.le_refl _) _))).mono ?_
        rintro e w2 ⟨rfl, hs2, hk2⟩
        have HN := hide (HR1.out.next ((KB.below ((Below.refl wr.heap.size wr).alloc (Nat.le_refl _) _) (by omega)).trans hk2) hs2 (by intro y hy; rcases List.mem_cons.1 hy with rfl | hy; exact hck; exact HR1.out.2.2.1 y hy) (by simp) hm)
        clear hs2 hk2
        go_wp2_with fail
        go_roundg fl
        case measure => omega
        case rel => exact ⟨i + 1, _, by simp, HN⟩
      · obtain ⟨g2, cap2, he2, hg2, d0, d1, d2⟩ := (HR.out.keep HLow.out).val hpl
        cases he2
        have hok2 := Pl.getD_ok HOR.out c.place
        generalize row.getD c.place Pl.nul = y at *
        have HPu := hide (fun w' (k : StkW w' (w.heap.size + 1 + 1) (w.heap.size + 1 + 1 + 1) wr.heap.size st) => pushS y st _ _ _ w' k (by have := HR1.out.2.2.2.1; omega))
        unfold vV at HPu
        rw [hk] at e0
        have hg2z : g2 < wr.heap.size := by omega
        go_wp2_with fail
        refine ((unhide HPu) _ (HR1.out.1.below ((Below.refl wr.heap.size wr).alloc (Nat.le_refl _) _))).mono ?_
        rintro e w2 ⟨rfl, hs2, hk2⟩
        have HN := hide (HR1.out.next ((KB.below ((Below.refl wr.heap.size wr).alloc (Nat.le_refl _) _) (by omega)).trans hk2) hs2 (by intro y hy; rcases List.mem_cons.1 hy with rfl | hy; exact hok2; exact HR1.out.2.2.1 y hy) (by simp) hm)
        clear hs2 hk2
        go_wp2_with fail
        go_roundg fl
        case measure => omega
        case rel => exact ⟨i + 1, _, by simp, HN⟩
      · have HTo := hide (fun w' (k : StkW w' (w.heap.size + 1 + 1) (w.heap.size + 1 + 1 + 1) wr.heap.size (v :: st1)) => topS v st1 _ _ _ w' k)
        obtain ⟨bb, hbb⟩ : ∃ bb, (c.kind == 3) = bb := ⟨_, rfl⟩
        rw [hbb] at hm
        have HTr := hide (truthM bb)
        have hev := eqB_V v (Pl.tru bb)
        have heq := eql_run
        unfold vV at HTo HTr
        by_cases hvt : v = Pl.tru bb
        · rw [Pl.V.same_yes hvt] at hev
          rw [if_pos hvt] at hm
          clear hvt
          rcases hk with hk | hk
          · rw [hk] at e0 hbb
            obtain rfl : false = bb := hbb
            go_wp2_with fail
            go_region_with (first
              | (go_at_call 219; refine ((unhide HTo) _ (by first | exact HR1.out.1.below ((Below.refl wr.heap.size wr).alloc (Nat.le_refl _) _).drew | exact (HR1.out.1.below (((Below.refl wr.heap.size wr).alloc (Nat.le_refl _) _).drew.trans (HB9.out.mono (by simp [World.drew])))))).mono ?_; rintro e w8 ⟨rfl, hb8⟩; obtain ⟨c8, f8⟩ := bcell hb8; have HB8 := hide hb8; have q8 : wr.heap.size < w8.heap.size := (by have := hb8.size; (try simp [World.drew] at this); omega); clear hb8)
              | (go_at_call 220; refine (unhide HTr _).mono ?_; rintro e w9 ⟨rfl, hb9⟩; obtain ⟨c9, f9⟩ := bcell hb9; have HB9 := hide hb9; have q9 : wr.heap.size < w9.heap.size := (by have := hb9.size; (try simp [World.drew] at this); omega); clear hb9))
            all_goals
              go_wp2_with fail
              first
                | (have hB := (((Below.refl wr.heap.size wr).alloc (Nat.le_refl _) _).drew.trans (HB8.out.mono (by simp [World.drew]))).trans (HB9.out.mono (by omega))
                   have HN := hide (HR1.out.next (st2 := v :: st1) (KB.below hB (by omega)) (HR1.out.1.below hB).up HR1.out.2.2.1 (by simp) hm)
                   go_roundg fl
                   case measure => omega
                   case rel => exact ⟨c.place, _, by simp, HN⟩)
                | (have hB := (((Below.refl wr.heap.size wr).alloc (Nat.le_refl _) _).drew.trans (HB9.out.mono (by simp [World.drew]))).trans (HB8.out.mono (by omega))
                   have HN := hide (HR1.out.next (st2 := v :: st1) (KB.below hB (by omega)) (HR1.out.1.below hB).up HR1.out.2.2.1 (by simp) hm)
                   go_roundg fl
                   case measure => omega
                   case rel => exact ⟨c.place, _, by simp, HN⟩)
          · rw [hk] at e0 hbb
            obtain rfl : true = bb := hbb
            go_wp2_with fail
            go_region_with (first
              | (go_at_call 219; refine ((unhide HTo) _ (by first | exact HR1.out.1.below ((Below.refl wr.heap.size wr).alloc (Nat.le_refl _) _).drew | exact (HR1.out.1.below (((Below.refl wr.heap.size wr).alloc (Nat.le_refl _) _).drew.trans (HB9.out.mono (by simp [World.drew])))))).mono ?_; rintro e w8 ⟨rfl, hb8⟩; obtain ⟨c8, f8⟩ := bcell hb8; have HB8 := hide hb8; have q8 : wr.heap.size < w8.heap.size := (by have := hb8.size; (try simp [World.drew] at this); omega); clear hb8)
              | (go_at_call 220; refine (unhide HTr _).mono ?_; rintro e w9 ⟨rfl, hb9⟩; obtain ⟨c9, f9⟩ := bcell hb9; have HB9 := hide hb9; have q9 : wr.heap.size < w9.heap.size := (by have := hb9.size; (try simp [World.drew] at this); omega); clear hb9))
            all_goals
              go_wp2_with fail
              first
                | (have hB := (((Below.refl wr.heap.size wr).alloc (Nat.le_refl _) _).drew.trans (HB8.out.mono (by simp [World.drew]))).trans (HB9.out.mono (by omega))
                   have HN := hide (HR1.out.next (st2 := v :: st1) (KB.below hB (by omega)) (HR1.out.1.below hB).up HR1.out.2.2.1 (by simp) hm)
                   go_roundg fl
                   case measure => omega
                   case rel => exact ⟨c.place, _, by simp, HN⟩)
                | (have hB := (((Below.refl wr.heap.size wr).alloc (Nat.le_refl _) _).drew.trans (HB9.out.mono (by simp [World.drew]))).trans (HB8.out.mono (by omega))
                   have HN := hide (HR1.out.next (st2 := v :: st1) (KB.below hB (by omega)) (HR1.out.1.below hB).up HR1.out.2.2.1 (by simp) hm)
                   go_roundg fl
                   case measure => omega
                   case rel => exact ⟨c.place, _, by simp, HN⟩)
        · rw [Pl.V.same_no hvt] at hev
          rw [if_neg hvt] at hm
          clear hvt
          rcases hk with hk | hk
          · rw [hk] at e0 hbb
            obtain rfl : false = bb := hbb
            go_wp2_with fail
            go_region_with (first
              | (go_at_call 219; refine ((unhide HTo) _ (by first | exact HR1.out.1.below ((Below.refl wr.heap.size wr).alloc (Nat.le_refl _) _).drew | exact (HR1.out.1.below (((Below.refl wr.heap.size wr).alloc (Nat.le_refl _) _).drew.trans (HB9.out.mono (by simp [World.drew])))))).mono ?_; rintro e w8 ⟨rfl, hb8⟩; obtain ⟨c8, f8⟩ := bcell hb8; have HB8 := hide hb8; have q8 : wr.heap.size < w8.heap.size := (by have := hb8.size; (try simp [World.drew] at this); omega); clear hb8)
              | (go_at_call 220; refine (unhide HTr _).mono ?_; rintro e w9 ⟨rfl, hb9⟩; obtain ⟨c9, f9⟩ := bcell hb9; have HB9 := hide hb9; have q9 : wr.heap.size < w9.heap.size := (by have := hb9.size; (try simp [World.drew] at this); omega); clear hb9))
            all_goals
              go_wp2_with fail
              first
                | (have hB := (((Below.refl wr.heap.size wr).alloc (Nat.le_refl _) _).drew.trans (HB8.out.mono (by simp [World.drew]))).trans (HB9.out.mono (by omega))
                   have HN := hide (HR1.out.next (st2 := v :: st1) (KB.below hB (by omega)) (HR1.out.1.below hB).up HR1.out.2.2.1 (by simp) hm)
                   go_roundg fl
                   case measure => omega
                   case rel => exact ⟨i + 1, _, by simp, HN⟩)
                | (have hB := (((Below.refl wr.heap.size wr).alloc (Nat.le_refl _) _).drew.trans (HB9.out.mono (by simp [World.drew]))).trans (HB8.out.mono (by omega))
                   have HN := hide (HR1.out.next (st2 := v :: st1) (KB.below hB (by omega)) (HR1.out.1.below hB).up HR1.out.2.2.1 (by simp) hm)
                   go_roundg fl
                   case measure => omega
                   case rel => exact ⟨i + 1, _, by simp, HN⟩)
          · rw [hk] at e0 hbb
            obtain rfl : true = bb := hbb
            go_wp2_with fail
            go_region_with (first
              | (go_at_call 219; refine ((unhide HTo) _ (by first | exact HR1.out.1.below ((Below.refl wr.heap.size wr).alloc (Nat.le_refl _) _).drew | exact (HR1.out.1.below (((Below.refl wr.heap.size wr).alloc (Nat.le_refl _) _).drew.trans (HB9.out.mono (by simp [World.drew])))))).mono ?_; rintro e w8 ⟨rfl, hb8⟩; obtain ⟨c8, f8⟩ := bcell hb8; have HB8 := hide hb8; have q8 : wr.heap.size < w8.heap.size := (by have := hb8.size; (try simp [World.drew] at this); omega); clear hb8)
              | (go_at_call 220; refine (unhide HTr _).mono ?_; rintro e w9 ⟨rfl, hb9⟩; obtain ⟨c9, f9⟩ := bcell hb9; have HB9 := hide hb9; have q9 : wr.heap.size < w9.heap.size := (by have := hb9.size; (try simp [World.drew] at this); omega); clear hb9))
            all_goals
              go_wp2_with fail
              first
                | (have hB := (((Below.refl wr.heap.size wr).alloc (Nat.le_refl _) _).drew.trans (HB8.out.mono (by simp [World.drew]))).trans (HB9.out.mono (by omega))
                   have HN := hide (HR1.out.next (st2 := v :: st1) (KB.below hB (by omega)) (HR1.out.1.below hB).up HR1.out.2.2.1 (by simp) hm)
                   go_roundg fl
                   case measure => omega
                   case rel => exact ⟨i + 1, _, by simp, HN⟩)
                | (have hB := (((Below.refl wr.heap.size wr).alloc (Nat.le_refl _) _).drew.trans (HB9.out.mono (by simp [World.drew]))).trans (HB8.out.mono (by omega))
                   have HN := hide (HR1.out.next (st2 := v :: st1) (KB.below hB (by omega)) (HR1.out.1.below hB).up HR1.out.2.2.1 (by simp) hm)
                   go_roundg fl
                   case measure => omega
                   case rel => exact ⟨i + 1, _, by simp, HN⟩)
      · obtain ⟨op, hop⟩ : ∃ op, c.kind = op + 2 := ⟨c.kind - 2, by omega⟩
        rw [hop] at e0 hm
        rw [show op + 2 - 2 = op by omega] at hm
        have n0 : (((op + 2 : Nat) : Int) == 0) = false := by simp; omega
        have n1 : (((op + 2 : Nat) : Int) == 1) = false := by simp; omega
        have n2 : (((op + 2 : Nat) : Int) == 2) = false := by simp; omega
        have n3 : (((op + 2 : Nat) : Int) == 3) = false := by simp; omega
        have HA := hide (fun w' (k : StkW w' (w.heap.size + 1 + 1) (w.heap.size + 1 + 1 + 1) wr.heap.size (v :: st1)) => apply1S op (by omega) (by omega) v (HR1.out.2.2.1 v (by simp)).range st1 _ _ _ w' k)
        rcases hm with ⟨er, hap, rfl⟩ | ⟨y, hap, hm⟩
        · have her : (er : Int) ≠ 0 := by have := Pl.ap1_err hap; omega
          have hern : ((er : Int) != 0) = true := by simpa using her
          rw [hap] at HA
          have HV : Hid (outV (.error er) = .tuple #[.agg #[.int .i64 0, .int .i64 0, .string ⟨#[]⟩], .int .i64 (er : Nat)]) := rfl
          rw [HV.out] at HA
          go_wp2_with fail
          refine ((unhide HA) _ (HR1.out.1.below ((Below.refl wr.heap.size wr).alloc (Nat.le_refl _) _))).mono ?_
          rintro e w2 ⟨rfl, hs2, hk2⟩
          have HK2 := hide ((KB.below (sb := w.heap.size + 1 + 1) (base := w.heap.size + 1 + 1 + 1) ((Below.refl wr.heap.size wr).alloc (Nat.le_refl _) _) (by omega)).trans hk2)
          have hbb : w2.heap[w.heap.size + 1]? = some (.cells #[.int .i64 0, .int .i64 0, .string ⟨#[]⟩] 34) := by rw [HK2.out.block _ (by omega) (by omega)]; exact HB1.out
          have d := blk_cell hbb
          have fz := blk_frozen hbb
          have q1 := lt_of_blk hbb
          clear hs2 hk2 hbb
          go_wp2_with fail
          have hBw := run_below (HR1.out.2.1.trans HK2.out)
          refine bodyPost_ret (v := .tuple #[.agg #[.int .i64 0, .int .i64 0, .string ⟨#[]⟩], .int .i64 (er : Nat)]) ?_ rfl ⟨rfl, (below_boxk hBw (by omega) _ _ _).alloc (by rw [size_set, size_set, size_set]; exact hBw.size) _⟩
          simp [results, Tryz.results162, go_sem, d, q1]
        · have hoky := Pl.ok_ap1 (HR1.out.2.2.1 v (by simp)) hap
          rw [hap] at HA
          have HV : Hid (outV (.ok y) = .tuple #[.agg #[.int .i64 y.kind, .int .i64 y.n, .string ⟨y.s.toArray⟩], .int .i64 0]) := rfl
          rw [HV.out] at HA
          go_wp2_with fail
          refine ((unhide HA) _ (HR1.out.1.below ((Below.refl wr.heap.size wr).alloc (Nat.le_refl _) _))).mono ?_
          rintro e w2 ⟨rfl, hs2, hk2⟩
          have hz2 : w.heap.size + 1 + 1 < w2.heap.size := by have := hk2.size; simp at this; omega
          have HS2 := hide hs2
          have HK2 := hide ((KB.below (sb := w.heap.size + 1 + 1) (base := w.heap.size + 1 + 1 + 1) ((Below.refl wr.heap.size wr).alloc (Nat.le_refl _) _) (by omega)).trans hk2)
          have HPu := hide (fun w' (k : StkW w' (w.heap.size + 1 + 1) (w.heap.size + 1 + 1 + 1) wr.heap.size st1) => pushS y st1 _ _ _ w' k (by have := HR1.out.2.2.2.1; simp at this; omega))
          unfold vV at HPu
          clear hs2 hk2
          go_wp2_with fail
          refine ((unhide HPu) _ (HS2.out.below ((Below.refl w2.heap.size w2).alloc (Nat.le_refl _) _))).mono ?_
          rintro e w3 ⟨rfl, hs3, hk3⟩
          have HN := hide (HR1.out.next ((HK2.out.trans (KB.below ((Below.refl w2.heap.size w2).alloc (Nat.le_refl _) _) (by omega))).trans hk3) hs3 (by intro z hy; rcases List.mem_cons.1 hy with rfl | hy; exact hoky; exact HR1.out.2.2.1 z (by simp [hy])) (by simp) hm)
          clear hs3 hk3
          go_wp2_with fail
          go_roundg fl
          case measure => omega
          case rel => exact ⟨i + 1, _, by simp, HN⟩
      · obtain ⟨op, hop⟩ : ∃ op, c.kind = op + 2 := ⟨c.kind - 2, by omega⟩
        rw [hop] at e0 hm
        rw [show op + 2 - 2 = op by omega] at hm
        have n0 : (((op + 2 : Nat) : Int) == 0) = false := by simp; omega
        have n1 : (((op + 2 : Nat) : Int) == 1) = false := by simp; omega
        have n2 : (((op + 2 : Nat) : Int) == 2) = false := by simp; omega
        have n3 : (((op + 2 : Nat) : Int) == 3) = false := by simp; omega
        have HA := hide (fun w' (k : StkW w' (w.heap.size + 1 + 1) (w.heap.size + 1 + 1 + 1) wr.heap.size (v :: u :: st1)) => apply2S X op (by omega) (by omega) u v st1 (HR1.out.2.2.1 u (by simp)).range (HR1.out.2.2.1 v (by simp)).range _ _ _ w' k)
        rcases hm with ⟨er, hap, rfl⟩ | ⟨y, hap, hm⟩
        · have her : (er : Int) ≠ 0 := by have := Pl.ap2_err hap; omega
          have hern : ((er : Int) != 0) = true := by simpa using her
          rw [hap] at HA
          have HV : Hid (outV (.error er) = .tuple #[.agg #[.int .i64 0, .int .i64 0, .string ⟨#[]⟩], .int .i64 (er : Nat)]) := rfl
          rw [HV.out] at HA
          go_wp2_with fail
          refine ((unhide HA) _ (HR1.out.1.below ((Below.refl wr.heap.size wr).alloc (Nat.le_refl _) _))).mono ?_
          rintro e w2 ⟨rfl, hs2, hk2⟩
          have HK2 := hide ((KB.below (sb := w.heap.size + 1 + 1) (base := w.heap.size + 1 + 1 + 1) ((Below.refl wr.heap.size wr).alloc (Nat.le_refl _) _) (by omega)).trans hk2)
          have hbb : w2.heap[w.heap.size + 1]? = some (.cells #[.int .i64 0, .int .i64 0, .string ⟨#[]⟩] 34) := by rw [HK2.out.block _ (by omega) (by omega)]; exact HB1.out
          have d := blk_cell hbb
          have fz := blk_frozen hbb
          have q1 := lt_of_blk hbb
          clear hs2 hk2 hbb
          go_wp2_with fail
          have hBw := run_below (HR1.out.2.1.trans HK2.out)
          refine bodyPost_ret (v := .tuple #[.agg #[.int .i64 0, .int .i64 0, .string ⟨#[]⟩], .int .i64 (er : Nat)]) ?_ rfl ⟨rfl, (below_boxk hBw (by omega) _ _ _).alloc (by rw [size_set, size_set, size_set]; exact hBw.size) _⟩
          simp [results, Tryz.results162, go_sem, d, q1]
        · have hoky := Pl.ok_ap2 (HR1.out.2.2.1 u (by simp)) (HR1.out.2.2.1 v (by simp)) hap
          rw [hap] at HA
          have HV : Hid (outV (.ok y) = .tuple #[.agg #[.int .i64 y.kind, .int .i64 y.n, .string ⟨y.s.toArray⟩], .int .i64 0]) := rfl
          rw [HV.out] at HA
          go_wp2_with fail
          refine ((unhide HA) _ (HR1.out.1.below ((Below.refl wr.heap.size wr).alloc (Nat.le_refl _) _))).mono ?_
          rintro e w2 ⟨rfl, hs2, hk2⟩
          have hz2 : w.heap.size + 1 + 1 < w2.heap.size := by have := hk2.size; simp at this; omega
          have HS2 := hide hs2
          have HK2 := hide ((KB.below (sb := w.heap.size + 1 + 1) (base := w.heap.size + 1 + 1 + 1) ((Below.refl wr.heap.size wr).alloc (Nat.le_refl _) _) (by omega)).trans hk2)
          have HPu := hide (fun w' (k : StkW w' (w.heap.size + 1 + 1) (w.heap.size + 1 + 1 + 1) wr.heap.size st1) => pushS y st1 _ _ _ w' k (by have := HR1.out.2.2.2.1; simp at this; omega))
          unfold vV at HPu
          clear hs2 hk2
          go_wp2_with fail
          refine ((unhide HPu) _ (HS2.out.below ((Below.refl w2.heap.size w2).alloc (Nat.le_refl _) _))).mono ?_
          rintro e w3 ⟨rfl, hs3, hk3⟩
          have HN := hide (HR1.out.next ((HK2.out.trans (KB.below ((Below.refl w2.heap.size w2).alloc (Nat.le_refl _) _) (by omega))).trans hk3) hs3 (by intro z hy; rcases List.mem_cons.1 hy with rfl | hy; exact hoky; exact HR1.out.2.2.1 z (by simp [hy])) (by simp) hm)
          clear hs3 hk3
          go_wp2_with fail
          go_roundg fl
          case measure => omega
          case rel => exact ⟨i + 1, _, by simp, HN⟩
    · obtain ⟨v, st', rfl, rfl⟩ := Pl.run_end HR1.out.2.2.2.2 (by omega)
      have HP := hide (popS v st' _ _ _ wr HR1.out.1)
      unfold vV at HP
      go_wp2_with fail
      refine (unhide HP).mono ?_
      rintro e w2 ⟨rfl, hs2, hk2⟩
      have HK2 := hide hk2
      have d := blk_cell (hk2.blk (by omega) HB1.out)
      have fz := blk_frozen (hk2.blk (by omega) HB1.out)
      have q1 := lt_of_blk (hk2.blk (by omega) HB1.out)
      clear hs2 hk2
      go_wp2_with fail
      refine bodyPost_ret (v := .tuple #[.agg #[.int .i64 v.kind, .int .i64 v.n, .string ⟨v.s.toArray⟩], .int .i64 0]) ?_ rfl ⟨rfl, below_boxk (run_below (HR1.out.2.1.trans (HK2.out.kb (by omega)))) (by omega) _ _ _⟩
      simp [results, Tryz.results162, go_sem, d, q1]
end Go.Proofs.YtojdpjpldokjmaaGreatDoor
/- The code's machine: what holds for a row. -/
namespace Go.Proofs.YtojdpjpldokjmaaGreatDoor
open Go.RowKit Go.Deep
set_option linter.unusedSimpArgs false
set_option linter.unusedVariables false

/-- What Holds answers. -/
def holdV : Pl.Out Pl.V → Value
  | .ok v => .tuple #[.bool (Pl.V.same v (Pl.tru true)), .int .i64 0]
  | .error e => .tuple #[.bool false, .int .i64 (e : Nat)]
theorem holdV_form (x : Pl.Out Pl.V) : ∃ v : Pl.V, ∃ e : Int, outV x = .tuple #[vV v, .int .i64 e] ∧ holdV x = .tuple #[.bool (Pl.V.same v (Pl.tru true)), .int .i64 e] := by
  cases x with
  | error e => exact ⟨Pl.nul, e, rfl, by simp [holdV, Pl.nul, Pl.tru, Pl.V.same]⟩
  | ok v => exact ⟨v, 0, rfl, rfl⟩

set_option maxHeartbeats 1000000 in
set_option maxRecDepth 100000 in
theorem pHoldsM (x : Pl.Out Pl.V) (cv rv : Value) (w : World) (hrun : ∀ w', Below w.heap.size w w' → Calls Tryz.prog 162 #[.agg #[cv], rv] w' fun e w'' => e = .returned (outV x) ∧ Below w'.heap.size w' w'') : Calls Tryz.prog 163 #[.agg #[cv], rv] w fun e w' => e = .returned (holdV x) ∧ Below w.heap.size w w' := by
  obtain ⟨v, er, hx, hh⟩ := holdV_form x
  rw [hh]
  rw [hx] at hrun
  have hev := eqB_V v (Pl.tru true)
  have heq := eql_run
  have HTr := hide (truthM true)
  have HR := hide (hrun _ ((Below.refl w.heap.size w).alloc (Nat.le_refl _) (.cells #[cv] 204)))
  clear hrun hx hh
  unfold vV at *
  go_enter Tryz.func163, Tryz.ntmps163
  go_wp2_with fail
  refine (unhide HR).mono ?_
  rintro e w1 ⟨rfl, hb1⟩
  have HB1 := hide (((Below.refl w.heap.size w).alloc (Nat.le_refl _) (.cells #[cv] 204)).trans (hb1.mono (by simp)))
  clear hb1 HR
  go_wp2_with fail
  go_region_with (go_at_call 220; refine (unhide HTr _).mono ?_; rintro e w9 ⟨rfl, hb9⟩; obtain ⟨c9, f9⟩ := bcell hb9; have HB9 := hide hb9; have q9 : w1.heap.size < w9.heap.size := (by have := hb9.size; (try simp [World.drew] at this); omega); clear hb9)
  all_goals go_wp2_with fail
  all_goals
    refine bodyPost_ret (by simp [results, Tryz.results163, go_sem]) rfl ⟨rfl, ?_⟩
    exact ((HB1.out.alloc HB1.out.size _).drew).trans (HB9.out.mono (by have := HB1.out.size; simp [World.drew]; omega))
end Go.Proofs.YtojdpjpldokjmaaGreatDoor
