/- The code's stable sort of fewer than 20 ranked rows. -/
import Derived.Test.YtojdpjpldokjmaaGreatDoorJ27
namespace Go.Proofs.YtojdpjpldokjmaaGreatDoor
open Go.RowKit Go.Deep
set_option linter.unusedSimpArgs false
set_option linter.unusedVariables false

/-- What the stable sort does, of up to N rows, by up to L keys. -/
def StableM (N L : Nat) : Prop := ∀ (ks : List Key) (tys : List Int) (ob base : Nat) (v : Value) (xs : List Rk) (w : World), ks.length ≤ L → tys.length = ks.length → xs.length ≤ N → RkW w base v xs → CmpIn w ob ks → ob < base → (∀ x ∈ xs, RkOk ks tys x) →
  Calls Tryz.prog 174 #[v, cmpFn ob] w fun e w' => e = .returned (.tuple #[]) ∧ RkW w' base v (Pl.isort (leT ks) xs) ∧ Below base w w'
set_option maxHeartbeats 1000000 in
set_option maxRecDepth 100000 in
theorem insNilM (f : Value) (w : World) : Calls Tryz.prog 258 #[.slice none 0 0, .int .i64 0, .int .i64 0, f] w fun e w' => e = .returned (.tuple #[]) ∧ w' = w := by
  go_enter Tryz.func258, Tryz.ntmps258
  go_wp2_with fail
  go_loopw [8] (fun s8 wr => s8 = .int .i64 1 ∧ wr = w) (fun s _ => 0)
  case atStart => exact ⟨rfl, rfl⟩
  case round =>
    obtain ⟨rfl, rfl⟩ := hrel
    go_wp2_with fail
    exact bodyPost_end (v := .tuple #[]) (by simp [results, Tryz.results258, go_sem]) rfl ⟨rfl, rfl⟩
theorem insAt_all (ks : List Key) (xs : List Rk) : insAt ks xs 0 xs.length = Pl.isort (leT ks) xs := by
  unfold insAt; simp
theorem keeps_below' {w w' : World} {g base : Nat} (h : Keeps g w w') (hb : base ≤ g) (hs : base ≤ w.heap.size) : Below base w w' :=
  ⟨h.os, h.tape, h.output, h.size, fun k hk => h.block k (by omega) (by omega)⟩
set_option maxHeartbeats 2000000 in
set_option maxRecDepth 100000 in
theorem stableCmp20 (Post : Ending → World → Prop) (hPost : ∀ e w', Post e w' → e = .returned (.tuple #[])) (va : Option Addr) (vc n : Nat) (hn : n ≤ 19) (f : Value) (w : World) (hI : Calls Tryz.prog 258 #[.slice va n vc, .int .i64 0, .int .i64 ((n : Nat) : Int), f] w Post) :
    Calls Tryz.prog 229 #[.slice va n vc, .int .i64 ((n : Nat) : Int), f] w Post := by
  have HI := hide hI
  have HPost := hide hPost
  clear hI hPost
  go_enter Tryz.func229, Tryz.ntmps229
  go_wp2_with fail
  go_loopw [7, 8] (fun s7 s8 wr => s7 = .int .i64 0 ∧ s8 = .int .i64 20 ∧ wr = w) (fun _ _ _ => 0)
  case atStart => exact ⟨rfl, rfl, rfl⟩
  case round =>
    obtain ⟨rfl, rfl, rfl⟩ := hrel
    go_wp2_with fail
    refine (unhide HI).mono ?_
    intro e w1 hp
    obtain rfl := HPost.out _ _ hp
    have HP1 := hide hp
    clear hp
    go_wp2_with fail
    go_loopw [6] (fun s6 wr => s6 = .int .i64 20 ∧ wr = w1) (fun _ _ => 0)
    case atStart => exact ⟨rfl, rfl⟩
    case round =>
      obtain ⟨rfl, rfl⟩ := hrel
      go_wp2_with fail
      exact bodyPost_end (v := .tuple #[]) (by simp [results, Tryz.results229, go_sem]) rfl HP1.out
set_option maxHeartbeats 1000000 in
set_option maxRecDepth 100000 in
theorem sortStable_of (Post : Ending → World → Prop) (hPost : ∀ e w', Post e w' → e = .returned (.tuple #[])) (va : Option Addr) (vc n : Nat) (f : Value) (w : World) (hI : Calls Tryz.prog 229 #[.slice va n vc, .int .i64 ((n : Nat) : Int), f] w Post) :
    Calls Tryz.prog 174 #[.slice va n vc, f] w Post := by
  have HI := hide hI
  have HPost := hide hPost
  clear hI hPost
  go_enter Tryz.func174, Tryz.ntmps174
  go_wp2_with fail
  refine (unhide HI).mono ?_
  intro e w1 hp
  obtain rfl := HPost.out _ _ hp
  have HP1 := hide hp
  clear hp
  go_wp2_with fail
  exact bodyPost_end (v := .tuple #[]) (by simp [results, Tryz.results174, go_sem]) rfl HP1.out
theorem stable20 (X : MachLib) {L : Nat} : StableM 19 L := by
  intro ks tys ob base v xs w _ htl hn hW hC hob hok
  obtain ⟨va, vc, hv, _⟩ := own_cap hW.own
  have hP : ∀ e w', (fun (e : Ending) (w' : World) => e = .returned (.tuple #[]) ∧ RkW w' base v (Pl.isort (leT ks) xs) ∧ Below base w w') e w' → e = .returned (.tuple #[]) := fun e w' h => h.1
  have hI : Calls Tryz.prog 258 #[v, .int .i64 0, .int .i64 ((xs.length : Nat) : Int), cmpFn ob] w fun e w' => e = .returned (.tuple #[]) ∧ RkW w' base v (Pl.isort (leT ks) xs) ∧ Below base w w' := by
    rcases hW.own.2 with ⟨rfl, h0⟩ | ⟨g, cap, cur, rfl, hb, hg, _⟩
    · obtain rfl : xs = [] := List.length_eq_zero_iff.1 h0
      refine (insNilM _ w).mono ?_
      rintro e w' ⟨rfl, rfl⟩
      exact ⟨rfl, hW, Below.refl _ _⟩
    · have := insM X ks tys htl ob base g cap 0 xs.length xs.length xs w (Nat.zero_le _) (Nat.le_refl _) rfl (by omega) hW hC (by omega) hok
      refine this.mono ?_
      rintro e w' ⟨rfl, h1, h2⟩
      rw [insAt_all] at h1
      exact ⟨rfl, h1, keeps_below' h2 hb (by have := lt_of_blk hg; omega)⟩
  rw [hv] at hI hP ⊢
  exact sortStable_of _ hP va vc xs.length _ w (stableCmp20 _ hP va vc xs.length hn _ w hI)
end Go.Proofs.YtojdpjpldokjmaaGreatDoor
/- The code's inOrder: rows sorted by what ORDER BY has reckoned. -/
namespace Go.Proofs.YtojdpjpldokjmaaGreatDoor
open Go.RowKit Go.Deep
set_option linter.unusedSimpArgs false
set_option linter.unusedVariables false

theorem Tryz.infoRk : (Tryz.prog.info? 288).map (fun i => (i.zero, i.size, i.bytes)) = some (some (.agg #[.slice none 0 0, .slice none 0 0]), 2, 48) := by kernel_rfl
/-- Rows with their ranks. -/
structure RR where
  p : Pl.PRow
  q : Pl.PRow
def RR.rk (r : RR) : Rk := ⟨r.q.1, r.q.2, r.p.2⟩
/-- What the first loop keeps: O: the box of the orders. -/
structure OrdA (w wr : World) (O : Obj) (o : Pl.Out (List (List Pl.V))) (cols : List Pl.Col) (ts : List Pl.T) (ps : List Pl.PRow) (i : Nat) (v : Value) (rs : List RR) : Prop where
  bel : Below (w.heap.size + 1) (w.alloc O) wr
  rk : RkW wr (w.heap.size + 1) v (rs.map RR.rk)
  rows : rs.map RR.p = ps.take i
  len : rs.length = i
  ev : o = addR (rs.map (fun r => r.q.1)) (Pl.evRows cols ts ((ps.drop i).map (·.1)))
theorem OrdA.low {w wr : World} {O : Obj} {o : Pl.Out (List (List Pl.V))} {cols : List Pl.Col} {ts : List Pl.T} {ps : List Pl.PRow} {i : Nat} {v : Value} {rs : List RR} (h : OrdA w wr O o cols ts ps i v rs) : Below w.heap.size w wr ∧ wr.heap[w.heap.size]? = some O ∧ w.heap.size + 1 ≤ wr.heap.size := by
  have h1 := h.bel
  have hz := h1.size
  simp at hz
  refine ⟨((Below.refl w.heap.size w).alloc (Nat.le_refl _) O).trans (h1.mono (Nat.le_succ _)), ?_, hz⟩
  rw [h1.block _ (Nat.lt_succ_self _)]; exact blk_new _ _
theorem OrdA.next {w wr w2 w4 : World} {O : Obj} {o : Pl.Out (List (List Pl.V))} {cols : List Pl.Col} {ts : List Pl.T} {ps : List Pl.PRow} {i : Nat} {v v' u : Value} {rs : List RR} {p : Pl.PRow} {r : List Pl.V} (h : OrdA w wr O o cols ts ps i v rs) (hpi : ps[i]? = some p) (hp : ps.drop i = p :: ps.drop (i + 1)) (he : Pl.evAll cols p.1 ts = .ok r) (hps : ∃ a m c, p.2 = .slice a m c) (hb : Below wr.heap.size wr w2) (hu : w2.ownsRow wr.heap.size 34 3 u r.length (rowC r))
    (hown : w4.ownsRow (w.heap.size + 1) 288 2 v' (i + 1) (rksC (rs.map RR.rk) ++ [u, p.2])) (hg : w2.grownBy w4 v.ownBlock) : OrdA w w4 O o cols ts ps (i + 1) v' (rs ++ [⟨p, (r, u)⟩]) := by
  obtain ⟨h1, h2, h3, h4, h5⟩ := h
  have hz := h1.size
  simp at hz
  have hz2 := hb.size
  have h22 := own_below hb h2.own
  refine ⟨below_grown (h1.trans (hb.mono hz)) hg (fun k hk => (h2.own.lt k hk).1) (by omega), ⟨?_, fun x hx => ?_⟩, ?_, by simp [h4], ?_⟩
  · rw [List.map_append, rksC_app, List.length_append, List.length_map, h4]
    exact hown
  · rw [List.map_append] at hx
    rcases List.mem_append.1 hx with hx | hx
    · exact ⟨own_other (own_below hb (h2.each x hx).1) h22 hg (by decide), (h2.each x hx).2⟩
    · simp at hx; subst hx
      exact ⟨own_base (own_other hu h22 hg (by decide)) (by omega), hps⟩
  · rw [List.take_add_one, hpi]; simp [h3]
  · rw [h5, hp, List.map_cons, addR_step he]
    simp
/-- What the second loop keeps. -/
def OrdB (w wr : World) (xs : List Rk) (i : Nat) (v : Value) : Prop := Below w.heap.size w wr ∧ wr.ownsRow w.heap.size 32 1 v i ((xs.take i).map Rk.row)
/-- What inOrder leaves. -/
def PostOrd (w : World) (o : Pl.Out (List (List Pl.V))) (ps : List Pl.PRow) (ds : List Bool) (e : Ending) (w' : World) : Prop := Below w.heap.size w w' ∧
  ((∃ er, o = .error er ∧ e = .returned (.tuple #[.slice none 0 0, .int .i64 (er : Nat)])) ∨
   (∃ ranks qs v, o = .ok ranks ∧ qs.map (·.1) = Pl.sorted (ps.map (·.1)) ranks ds ∧ (∀ q ∈ qs, q ∈ ps) ∧ qs.length = ps.length ∧ e = .returned (.tuple #[v, .int .i64 0]) ∧ w'.ownsRow w.heap.size 32 1 v qs.length (sndC qs)))
theorem ins_map {α β : Type} (f : α → β) (le : α → α → Bool) (le' : β → β → Bool) (x : α) : ∀ (l : List α), (∀ y ∈ l, le x y = le' (f x) (f y)) → (Pl.ins le x l).map f = Pl.ins le' (f x) (l.map f)
  | [], _ => rfl
  | y :: l, h => by
    unfold Pl.ins
    rw [h y (by simp), List.map_cons]
    simp only
    split
    · rfl
    · rw [List.map_cons, ins_map f le le' x l (fun z hz => h z (by simp [hz]))]
theorem isort_map {α β : Type} (f : α → β) (le : α → α → Bool) (le' : β → β → Bool) : ∀ (l : List α), (∀ x ∈ l, ∀ y ∈ l, le x y = le' (f x) (f y)) → (Pl.isort le l).map f = Pl.isort le' (l.map f)
  | [], _ => rfl
  | x :: l, h => by
    show (Pl.ins le x (Pl.isort le l)).map f = Pl.ins le' (f x) (Pl.isort le' (l.map f))
    rw [← isort_map f le le' l (fun a ha b hb => h a (by simp [ha]) b (by simp [hb]))]
    exact ins_map f le le' x _ (fun y hy => h x (by simp) y (by simp [Pl.isort_mem hy]))
/-- The ranked rows sorted are the rows sorted. -/
theorem sorted_rk {ks : List Key} {tys : List Int} (ht : tys.length = ks.length) {rs : List RR} (hok : ∀ r ∈ rs, RkOk ks tys r.rk) : ∃ rs' : List RR, rs'.map RR.rk = Pl.isort (leT ks) (rs.map RR.rk) ∧ (rs'.map RR.p).map (·.1) = Pl.sorted ((rs.map RR.p).map (·.1)) (rs.map (fun r => r.q.1)) (dsOf ks) ∧ (∀ r ∈ rs', r ∈ rs) ∧ rs'.length = rs.length := by
  refine ⟨Pl.isort (fun a b => leT ks a.rk b.rk) rs, isort_map RR.rk _ _ rs (fun x _ y _ => rfl), ?_, fun r hr => Pl.isort_mem hr, Pl.isort_len _ _⟩
  unfold Pl.sorted
  have hz : (rs.map (fun r => r.q.1)).zip ((rs.map RR.p).map (·.1)) = rs.map (fun r => (r.q.1, r.p.1)) := by
    induction rs with
    | nil => rfl
    | cons a l ih => simp only [List.map_cons, List.zip_cons_cons]; rw [ih (fun r hr => hok r (by simp [hr]))]
  rw [hz, ← isort_map (fun r : RR => (r.q.1, r.p.1)) (fun a b => leT ks a.rk b.rk) _ rs ?_]
  · rw [List.map_map, List.map_map]; rfl
  · intro x hx y hy
    unfold leT
    show _ = decide (Pl.cmpRanks x.q.1 y.q.1 (dsOf ks) ≤ 0)
    rw [Pl.cmp_cmpT tys (dsOf ks) x.q.1 y.q.1 (by simp [dsOf, ht]) (hok x hx).2 (hok y hy).2]
    rfl
end Go.Proofs.YtojdpjpldokjmaaGreatDoor
/- The code's inOrder: the walk. -/
namespace Go.Proofs.YtojdpjpldokjmaaGreatDoor
open Go.RowKit Go.Deep
set_option linter.unusedSimpArgs false
set_option linter.unusedVariables false

theorem RkW.at {w : World} {base : Nat} {v : Value} {xs : List Rk} (h : RkW w base v xs) {i : Nat} {x : Rk} (hx : xs[i]? = some x) : ∃ g cap, v = .slice (some ⟨g, 0, none⟩) xs.length cap ∧ g < w.heap.size ∧ w.cell? ⟨g, i * 2, none⟩ = some x.rv ∧ w.cell? ⟨g, i * 2 + 1, none⟩ = some x.row := by
  rcases h.own.2 with ⟨_, h0⟩ | ⟨g, cap, cur, hv, _, hh, _, _, _, ht⟩
  · have := getElem?_lt hx; omega
  · have hcur : ∀ k u, (rksC xs)[k]? = some u → cur[k]? = some u := fun k u hk => by
      rw [← ht, List.getElem?_take] at hk
      split at hk
      · simpa using hk
      · cases hk
    exact ⟨g, cap, hv, lt_of_blk hh, (blk_cell hh _).trans (hcur _ _ (rksC_at hx).1), (blk_cell hh _).trans (hcur _ _ (rksC_at hx).2)⟩

set_option maxHeartbeats 8000000 in
set_option maxRecDepth 100000 in
theorem inOrderM (X : MachLib) (N : Nat) {L : Nat} (HS : StableM N L) (cols : List Pl.Col) (ts : List (Pl.T × Value)) (ps : List Pl.PRow) (ks : List Key) (rv pv kv : Value) (w : World) (hm : MatW w w.heap.size ps rv) (hp : ProgsW w w.heap.size cols ts pv) (hk : RowsW w w.heap.size 2 keyC ks kv) (hkp : ∀ k ∈ ks, ∃ p, k.2.1 = .pointer p) (hlen : ts.length = ks.length) (hf : ∀ p ∈ ts, Pl.Fine cols p.1) (hrow : ∀ p ∈ ps, Pl.RowFor cols p.1) (hl : ps.length ≤ N) (hN : N ≤ 1048576) (htl : ks.length ≤ 1000) (hkL : ks.length ≤ L) :
    Calls Tryz.prog 112 #[rv, pv, kv] w (PostOrd w (Pl.evRows cols (ts.map (·.1)) (ps.map (·.1))) ps (dsOf ks)) := by
  obtain ⟨ra, rc, rfl⟩ := hm.1.slice
  obtain ⟨ka, kc, rfl⟩ := hk.slice
  obtain ⟨i0, hi, hz0, hz1, hz2⟩ := info_parts Tryz.infoRk
  obtain ⟨j0, hj, hy0, hy1, hy2⟩ := info_parts Tryz.infoRow
  have HM := hide hm
  have HP := hide hp
  have HF := hide hf
  have HRow := hide hrow
  have HK := hide hk
  have HKp := hide hkp
  have HLen := hide hlen
  have HSt := hide HS
  generalize ho : Pl.evRows cols (ts.map (·.1)) (ps.map (·.1)) = o
  have HO := hide ho
  clear hm hp hf hrow ho hk hkp hlen HS
  go_enter Tryz.func112, Tryz.ntmps112
  go_wp2_with fail
  have HI0 : Hid (OrdA w (w.alloc (.cells #[.slice ka ks.length kc] 227)) (.cells #[.slice ka ks.length kc] 227) o cols (ts.map (·.1)) ps 0 (.slice none 0 0) []) :=
    ⟨Below.refl _ _, ⟨World.ownsRow_nil _ _ _ _, by simp⟩, rfl, rfl, by rw [← HO.out]; simp; cases Pl.evRows cols (ts.map (·.1)) (ps.map (·.1)) <;> simp [addR]⟩
  go_loopw [8, 18] (fun s8 s18 wr => ∃ (i : Nat) (rs : List RR), i ≤ ps.length ∧ s18 = .int .i64 i ∧ Hid (OrdA w wr (.cells #[.slice ka ks.length kc] 227) o cols (ts.map (·.1)) ps i s8 rs)) (fun _ a _ => ps.length - (intOf a).toNat)
  case atStart => exact ⟨0, [], Nat.zero_le _, rfl, HI0⟩
  case round =>
    obtain ⟨i, rs, hi', rfl, HI⟩ := hrel
    clear HI0
    obtain ⟨hbI, hbox, hbz⟩ := HI.out.low
    have hwz : w.heap.size < wr.heap.size := by omega
    obtain ⟨v1a, v1n, v1c, rfl⟩ := own_slice HI.out.rk.own
    by_cases hlt : i < ps.length
    · have hpi : ps[i]? = some ps[i] := List.getElem?_eq_getElem hlt
      have HD : Hid (ps.drop i = ps[i] :: ps.drop (i + 1)) := List.drop_eq_getElem_cons hlt
      have hmem := List.getElem_mem hlt
      generalize ps[i] = p at *
      obtain ⟨pr, pv'⟩ := p
      obtain ⟨g, cap, he, hg, e0⟩ := (HM.out.1.keep (fun k hk => hbI.block k hk)).at1 hpi
      cases he
      have hgz : g < wr.heap.size := by omega
      obtain ⟨qa, qc, hqv⟩ : ∃ a c, pv' = .slice a pr.length c := (HM.out.2 _ hmem).slice
      subst hqv
      have hrf := HRow.out _ hmem
      have HRun := hide (reckonAllM X cols pr ts pv _ wr (HP.out.below hbI) ((HM.out.2 _ hmem).below hbI) HF.out ⟨hrf.2.1, by rw [hrf.1]; exact Nat.le_refl _⟩ (by have := HLen.out; omega))
      have HPi := hide hpi
      simp only at e0
      clear hbI hbox hrf
      go_wp2_with fail
      refine (unhide HRun).mono ?_
      rintro e w2 ⟨hb2, hp2⟩
      have HB2 := hide hb2
      have hz2' := hb2.size
      clear HRun hb2
      rcases hp2 with ⟨er, hev, rfl⟩ | ⟨r, u, hev, rfl, hu⟩
      · have her : ((er : Int) != 0) = true := by have := evAll_err hev; simp; omega
        have HE : Hid (o = .error er) := by unfold Hid; rw [HI.out.ev, HD.out]; exact addR_err hev
        clear hev
        go_wp2_with fail
        exact bodyPost_ret (v := .tuple #[.slice none 0 0, .int .i64 (er : Nat)]) (by simp [results, Tryz.results112, go_sem]) rfl ⟨HI.out.low.1.trans (HB2.out.mono (by omega)), .inl ⟨er, HE.out, rfl⟩⟩
      · obtain ⟨ua, un, uc, rfl⟩ := own_slice hu
        have HU := hide hu
        have HEv := hide hev
        have hown2 := own_below HB2.out HI.out.rk.own
        have hal := HI.out.len
        rw [List.length_map, hal] at hown2
        clear hev hu
        go_wp2_with (at_builtin; refine wpList_append_own _ rfl (.tmp 31) (.tmp 35) 286 rfl (w.heap.size + 1) 288 i0 _ 2 48 Tryz.underlying286 hi hz0 hz1 hz2 rfl (by decide) _ _ _ rfl (hown2.alloc _) ⟨w2.heap.size, 0, none⟩ 1 1 [.slice ua un uc, .slice qa pr.length qc] rfl rfl ?c1 ?c2 ?c3 ?c4 ?c5 ?_)
        case c1 => exact news_at w2 [.slice ua un uc, .slice qa pr.length qc] 288
        case c2 => intro x hx; simp at hx; rcases hx with rfl | rfl <;> rfl
        case c3 => unfold maxLen; omega
        case c4 => omega
        case c5 => simp; omega
        intro v' w4 hown4 hg4 hnil
        have HI4 := hide (HI.out.next (p := (pr, .slice qa pr.length qc)) (w2 := w2.alloc (.cells #[.slice ua un uc, .slice qa pr.length qc] 288)) HPi.out HD.out HEv.out ⟨_, _, _, rfl⟩ (HB2.out.alloc hz2' _) (HU.out.alloc _) hown4 hg4)
        clear hown2 hown4 hg4 hnil
        go_wp2_with fail
        go_roundw
        case rel => exact ⟨i + 1, _, by omega, by go_num, HI4⟩
        case measure => simp [intOf]; omega
    · obtain rfl : i = ps.length := by omega
      have HE : Hid (o = .ok (rs.map (fun r => r.q.1))) := by unfold Hid; rw [HI.out.ev, List.drop_length]; simp [Pl.evRows, addR]
      have hrows : rs.map RR.p = ps := by rw [HI.out.rows, List.take_length]
      have hev : Pl.evRows cols (ts.map (·.1)) (ps.map (·.1)) = .ok (rs.map (fun r => r.q.1)) := by rw [HO.out]; exact HE.out
      have hokt : ∀ t ∈ ts.map (·.1), Pl.okT t := fun t ht => by obtain ⟨p, hp, rfl⟩ := List.mem_map.1 ht; exact (HF.out p hp).1
      have htct : ∀ t ∈ ts.map (·.1), ∃ ty, Pl.tc cols t = .ok ty := fun t ht => by obtain ⟨p, hp, rfl⟩ := List.mem_map.1 ht; exact (HF.out p hp).2
      have hrf : ∀ r ∈ ps.map (·.1), Pl.RowFor cols r := fun r hr => by obtain ⟨p, hp, rfl⟩ := List.mem_map.1 hr; exact HRow.out p hp
      have hokr : ∀ r ∈ rs, RkOk ks (Pl.tysOf cols (ts.map (·.1))) r.rk := fun r hr => by
        have hm' : r.q.1 ∈ rs.map (fun r => r.q.1) := List.mem_map_of_mem hr
        refine ⟨?_, Pl.evRows_types hokt htct hrf hev _ hm'⟩
        have := ((Pl.evRows_ok hokt hrf hev).2 _ hm').1
        rw [List.length_map] at this
        exact this.trans HLen.out
      obtain ⟨rs', s1, s2, s3, s4⟩ := sorted_rk (ks := ks) (tys := Pl.tysOf cols (ts.map (·.1))) (by simp [Pl.tysOf]; exact HLen.out) hokr
      have HSort := hide (unhide HSt ks (Pl.tysOf cols (ts.map (·.1))) w.heap.size (w.heap.size + 1) _ (rs.map RR.rk) wr hkL (by simp [Pl.tysOf]; exact HLen.out) (by rw [List.length_map, HI.out.len]; exact hl) HI.out.rk ⟨⟨_, hbox, HK.out.keep (fun k hk => hbI.block k hk)⟩, HKp.out, htl⟩ (Nat.lt_succ_self _) (fun x hx => by obtain ⟨r, hr, rfl⟩ := List.mem_map.1 hx; exact hokr r hr))
      rw [← s1] at HSort
      have HS2 := hide s2
      have HS3 := hide s3
      have hs4 : rs'.length = ps.length := by rw [s4]; exact HI.out.len
      have HRows := hide hrows
      unfold cmpFn at HSort
      clear hbI hbox hev hokt htct hrf hokr s1 s2 s3 s4 hrows
      obtain ⟨xs, hxs⟩ : ∃ xs, rs'.map RR.rk = xs := ⟨_, rfl⟩
      have HXs := hide hxs
      have hxl : xs.length = ps.length := by rw [← hxs, List.length_map]; exact hs4
      rw [hxs] at HSort
      clear hxs
      go_wp2_with fail
      refine (unhide HSort).mono ?_
      rintro e w3 ⟨rfl, hrk3, hb3⟩
      have HRk := hide hrk3
      have HB3 : Hid (Below w.heap.size w w3) := HI.out.low.1.trans (hb3.mono (Nat.le_succ _))
      obtain ⟨v3a, v3c, hv3, _⟩ := own_cap hrk3.own
      have HV3 := hide hv3
      rw [hxl] at hv3
      injection hv3 with hva hvn hvc
      subst hva hvn hvc
      clear hrk3 hb3 HSort
      go_wp2_with fail
      go_loopw [13, 43] (fun s13 s43 wr => ∃ (i : Nat), i ≤ xs.length ∧ s43 = .int .i64 i ∧ Hid (OrdB w3 wr xs i s13)) (fun _ a _ => xs.length - (intOf a).toNat)
      case atStart => exact ⟨0, Nat.zero_le _, rfl, Below.refl _ _, World.ownsRow_nil _ _ _ _⟩
      case round =>
        obtain ⟨i, hi', rfl, HJ⟩ := hrel
        have hbJ := HJ.out.1
        have hown := HJ.out.2
        have hbzJ := hbJ.size
        obtain ⟨z1a, z1n, z1c, rfl⟩ := own_slice hown
        by_cases hlt2 : i < xs.length
        · have hpi : xs[i]? = some xs[i] := List.getElem?_eq_getElem hlt2
          have HD2 : Hid (xs.take (i + 1) = xs.take i ++ [xs[i]]) := by unfold Hid; rw [List.take_add_one, hpi]; rfl
          have hmem := List.getElem_mem hlt2
          generalize xs[i] = x at *
          obtain ⟨g, cap, he, hg, e0, e1⟩ := (HRk.out.below hbJ).at hpi
          rw [hxl] at he
          cases he
          obtain ⟨hxo, xra, xrm, xrc, hxw⟩ := HRk.out.each x hmem
          obtain ⟨xa, xn, xc, hxr⟩ := own_slice hxo
          rw [hxr] at e0
          rw [hxw] at e1
          have HXw := hide hxw
          clear hbJ hmem hxo hxw hxr
          go_wp2_with (at_builtin; refine wpList_append_own _ rfl (.tmp 47) (.tmp 50) 29 rfl w3.heap.size 32 j0 _ 1 24 Tryz.underlying29 hj hy0 hy1 hy2 rfl (by decide) _ _ _ rfl ((hown.alloc _).alloc _) ⟨wr.heap.size + 1, 0, none⟩ 1 1 [.slice xra xrm xrc] rfl rfl ?c1 ?c2 ?c3 ?c4 ?c5 ?_)
          case c1 => exact news2 wr _ [.slice xra xrm xrc] 32
          case c2 => intro x hx; simp at hx; subst hx; rfl
          case c3 => unfold maxLen; omega
          case c4 => omega
          case c5 => simp; omega
          intro v' w4 hown4 hg4 hnil
          have HI4 : Hid (OrdB w3 w4 xs (i + 1) v') := by
            refine ⟨below_grown ((HJ.out.1.alloc HJ.out.1.size _).alloc (by simp; omega) _) hg4 (fun k hk => (hown.lt k hk).1) (by simp; omega), ?_⟩
            rw [HD2.out, List.map_append, List.map_take]
            show w4.ownsRow _ _ _ _ _ (_ ++ [x.row])
            rw [HXw.out]
            exact hown4
          clear hown hown4 hg4 hnil
          go_wp2_with fail
          go_roundw
          case rel => exact ⟨i + 1, by omega, by go_num, HI4⟩
          case measure => simp [intOf]; omega
        · obtain rfl : i = xs.length := by omega
          rw [List.take_length] at hown
          have HFin : Hid (wr.ownsRow w.heap.size 32 1 (.slice z1a z1n z1c) (rs'.map RR.p).length (sndC (rs'.map RR.p))) := by
            unfold Hid
            have h2 := own_base hown HB3.out.size
            rw [← HXs.out, List.map_map, List.length_map] at h2
            rw [List.length_map]
            unfold sndC
            rw [List.map_map]
            exact h2
          have HBf : Hid (Below w.heap.size w wr) := HB3.out.trans (hbJ.mono HB3.out.size)
          clear hbJ hown
          go_wp2_with fail
          refine bodyPost_ret (v := .tuple #[.slice z1a z1n z1c, .int .i64 0]) (by simp [results, Tryz.results112, go_sem]) rfl ⟨HBf.out, .inr ⟨_, rs'.map RR.p, _, HE.out, ?_, fun q hq => ?_, by rw [List.length_map]; exact hs4, rfl, HFin.out⟩⟩
          · have := HS2.out
            rw [HRows.out] at this
            exact this
          · obtain ⟨r, hr, rfl⟩ := List.mem_map.1 hq
            rw [← HRows.out]
            exact List.mem_map_of_mem (HS3.out r hr)
end Go.Proofs.YtojdpjpldokjmaaGreatDoor
