/- The keep Known: the walk. -/
import Derived.Test.YtojdpjpldokjmaaGreatDoorG37
import Derived.Test.YtojdpjpldokjmaaGreatDoorG40
import Derived.Test.YtojdpjpldokjmaaGreatDoorG41
namespace Go.Proofs.YtojdpjpldokjmaaGreatDoor
open Go.RowKit Go.Deep
set_option linter.unusedSimpArgs false
set_option linter.unusedVariables false

/-- The globals that Save leans on, none of them the database's. -/
structure SvG (w : World) (M : Nat → Prop) : Prop where
  g : SaveG w
  not : ∀ k, k = 5 ∨ k = 2 ∨ k = 0 → ¬ M k
theorem SvG.step {w w' : World} {M M' : Nat → Prop} (h : SvG w M) (hs : Stp w M w' M') : SvG w' M' :=
  ⟨h.g.keep (fun k hk => hs.keep.block k ⟨h.g.lts k hk, h.not k hk⟩), fun k hk => hs.not (h.g.lts k hk) (h.not k hk)⟩
theorem SvG.new {w : World} (h : SaveG w) : SvG (w.alloc dbO) (oneB w.heap.size) :=
  ⟨h.below ((Below.refl _ _).alloc (Nat.le_refl _) _), fun k hk e => by
    have h1 := h.lts k hk
    have e' : k = w.heap.size := e
    omega⟩
/-- A row, as it is laid new. -/
theorem row_new {W : World} {k : Nat} {r : List Pl.V} {C : Array Value} (h : W.heap[k]? = some (.cells C 34)) (hC : C = (rowC r).toArray) : RowsW W W.heap.size 3 vC r (.slice (some ⟨k, 0, none⟩) r.length r.length) := by
  subst hC
  have hz := lt_of_blk h
  refine ⟨_, _, rfl, fun hn => ⟨k, rfl, hz, fun i x hx j u hu => ?_⟩⟩
  rw [blk_cell h]
  have h1 := flat_at vC 3 (fun _ => rfl) r i j x u hx hu
  simpa [rowC] using h1
/-- Rows, as they are laid new. -/
theorem mat_new {W : World} {k : Nat} {rows : List (List Pl.V)} {us : List Value} (h : W.heap[k]? = some (.cells us.toArray 32)) (hl : us.length = rows.length) (hr : ∀ (i : Nat) (r : List Pl.V) (u : Value), rows[i]? = some r → us[i]? = some u → RowsW W W.heap.size 3 vC r u) : MatO W rows (.slice (some ⟨k, 0, none⟩) rows.length rows.length) := by
  refine ⟨_, _, rfl, Nat.le_refl _, fun _ => ⟨k, 0, rfl, lt_of_blk h, fun i r hi => ?_⟩⟩
  have hlt : i < us.length := by rw [hl]; exact (List.getElem?_eq_some_iff.1 hi).1
  refine ⟨us[i], ?_, hr i r _ hi (List.getElem?_eq_getElem hlt)⟩
  rw [blk_cell h]
  simp [hlt]
def kSel (k : Nat) : List UInt8 := match k with
  | 0 => Pl.kSel0 | 1 => Pl.kSel1 | 2 => Pl.kSel2 | 3 => Pl.kSel3 | 4 => Pl.kSel4 | _ => Pl.kSel5
def kWant (k : Nat) : List (List Pl.V) := match k with
  | 0 => Pl.kWant0 | 1 => Pl.kWant1 | 2 => Pl.kWant2 | 3 => Pl.kWant3 | 4 => Pl.kWant4 | _ => Pl.kWant5
theorem kSel_exec (k : Nat) : Pl.exec Pl.kDb (kSel k) = (Pl.kDb, ⟨kWant k, 0, 0⟩) := by
  match k with
  | 0 => exact Pl.k_sel0 | 1 => exact Pl.k_sel1 | 2 => exact Pl.k_sel2 | 3 => exact Pl.k_sel3 | 4 => exact Pl.k_sel4 | _ + 5 => exact Pl.k_sel5
theorem kSel_len (k : Nat) : (kSel k).length ≤ 600 := by
  match k with
  | 0 => decide | 1 => decide | 2 => decide | 3 => decide | 4 => decide | _ + 5 => exact (by decide : Pl.kSel5.length ≤ 600)
theorem kWant_len (k : Nat) : (kWant k).length ≤ 2 ∧ ∀ r ∈ kWant k, r.length ≤ 2 := by
  match k with
  | 0 => decide | 1 => decide | 2 => decide | 3 => decide | 4 => decide | _ + 5 => exact (by decide : Pl.kWant5.length ≤ 2 ∧ ∀ r ∈ Pl.kWant5, r.length ≤ 2)
/-- A SELECT over so few rows may be done. -/
theorem k_ok (HS : StableM 19) {t : List UInt8} (h : (Pl.pParse t).map (fun s => (s.kind, s.distinct, s.sources.length)) = some (115, false, 1) ∨ (Pl.pParse t).map (fun s => (s.kind, s.distinct, s.sources.length)) = some (115, false, 2)) : ExecOk Pl.kDb t := fun s hs => by
  rw [hs] at h
  have hm : ∀ t ∈ Pl.kDb, t.rows.length ≤ 2 := by
    intro t ht
    simp [Pl.kDb, Pl.kTab] at ht
    subst ht
    decide
  have h3 : s.kind = 115 ∧ s.distinct = false ∧ s.sources.length ≤ 2 := by
    rcases h with h | h <;> simp at h <;> exact ⟨h.1, h.2.1, by omega⟩
  refine ⟨fun e => absurd (h3.1.symm.trans e) (by decide), fun _ => ⟨19, HS, by omega, fun is rows hj => ?_, fun e => (by rw [h3.2.1] at e; cases e)⟩⟩
  have h4 := Pl.joinsAll_len hm (by omega) hj
  have h5 : 2 ^ s.sources.length ≤ 2 ^ 2 := Nat.pow_le_pow_right (by omega) h3.2.2
  simp at h4
  omega
theorem kSel_ok (HS : StableM 19) (k : Nat) : ExecOk Pl.kDb (kSel k) := by
  match k with
  | 0 => exact k_ok HS (.inl (by kernel_rfl)) | 1 => exact k_ok HS (.inl (by kernel_rfl)) | 2 => exact k_ok HS (.inl (by kernel_rfl)) | 3 => exact k_ok HS (.inl (by kernel_rfl)) | 4 => exact k_ok HS (.inr (by kernel_rfl)) | _ + 5 => exact k_ok HS (.inl (by kernel_rfl))
/-- What Known lays: four values, the texts, the rows that are wanted. -/
def rowO (r : List Pl.V) : Obj := .cells (rowC r).toArray 34
def rowS (k n : Nat) : Value := .slice (some ⟨k, 0, none⟩) n n
def kObjs (s : Nat) : List Obj :=
  [rowO [Pl.nV 1], rowO [Pl.kX], rowO [Pl.kIts], rowO [Pl.tru false],
   .cells #[.string ⟨Pl.kSel0.toArray⟩, .string ⟨Pl.kSel1.toArray⟩, .string ⟨Pl.kSel2.toArray⟩, .string ⟨Pl.kSel3.toArray⟩, .string ⟨Pl.kSel4.toArray⟩, .string ⟨Pl.kSel5.toArray⟩] 9,
   rowO [Pl.nV 1, Pl.kX], rowO [Pl.nul, Pl.kIts], .cells #[rowS (s + 5) 2, rowS (s + 6) 2] 32,
   rowO [Pl.nV 2], .cells #[rowS (s + 8) 1] 32,
   rowO [Pl.kX], rowO [Pl.kIts], .cells #[rowS (s + 10) 1, rowS (s + 11) 1] 32,
   rowO [Pl.tru false], rowO [Pl.tru true], .cells #[rowS (s + 13) 1, rowS (s + 14) 1] 32,
   rowO [Pl.nV 1, Pl.nV 1], rowO [Pl.nul, Pl.nul], .cells #[rowS (s + 16) 2, rowS (s + 17) 2] 32,
   rowO [Pl.tru false], rowO [Pl.tru false], .cells #[rowS (s + 19) 1, rowS (s + 20) 1] 32,
   .cells #[rowS (s + 7) 2, rowS (s + 9) 1, rowS (s + 12) 2, rowS (s + 15) 2, rowS (s + 18) 2, rowS (s + 21) 2] 29]
theorem fold_old : ∀ (os : List Obj) (w : World) (k : Nat), k < w.heap.size → (os.foldl World.alloc w).heap[k]? = w.heap[k]?
  | [], w, k, h => rfl
  | o :: os, w, k, h => by
    rw [List.foldl_cons, fold_old os (w.alloc o) k (by simp; omega)]
    exact ((Below.refl w.heap.size w).alloc (Nat.le_refl _) o).block k h
theorem fold_at : ∀ (os : List Obj) (w : World) (j : Nat) (o : Obj), os[j]? = some o → (os.foldl World.alloc w).heap[w.heap.size + j]? = some o
  | [], w, j, o, h => by simp at h
  | x :: os, w, 0, o, h => by
    simp at h
    subst h
    rw [List.foldl_cons, Nat.add_zero, fold_old os (w.alloc x) _ (by simp)]
    exact blk_new w x
  | x :: os, w, j + 1, o, h => by
    rw [List.foldl_cons]
    have := fold_at os (w.alloc x) j o (by simpa using h)
    rw [show (w.alloc x).heap.size + j = w.heap.size + (j + 1) by simp; omega] at this
    exact this
theorem fold_below : ∀ (os : List Obj) (w w0 : World) (B : Nat), Below B w0 w → B ≤ w.heap.size → Below B w0 (os.foldl World.alloc w)
  | [], w, w0, B, h, _ => h
  | o :: os, w, w0, B, h, hB => fold_below os (w.alloc o) w0 B (h.alloc hB o) (by simp; omega)
def KnB (W : World) (s : Nat) : Prop := ∀ (j : Nat) (o : Obj), (kObjs s)[j]? = some o → W.heap[s + j]? = some o
structure KnW (w W : World) (g h : Nat) : Prop where
  eg : g = w.heap.size + 4
  eh : h = w.heap.size + 22
  bel : Below w.heap.size w W
  blk : KnB W w.heap.size
theorem KnW.new (w : World) : KnW w ((kObjs w.heap.size).foldl World.alloc w) (w.heap.size + 4) (w.heap.size + 22) :=
  ⟨rfl, rfl, fold_below _ _ _ _ (Below.refl _ _) (Nat.le_refl _), fun j o h => fold_at _ _ _ _ h⟩
theorem KnB.step {W W' : World} {s : Nat} {M M' : Nat → Prop} (h : KnB W s) (hM : ∀ k, M k → k < s) (hs : Stp W M W' M') : KnB W' s := fun j o ho => (hs.blk (h j o ho) (fun hm => by have := hM _ hm; omega)).1
theorem KnB.txt {W : World} {s : Nat} (h : KnB W s) (k : Nat) (hk : k < 6) : W.cell? ⟨s + 4, k, none⟩ = some (.string ⟨(kSel k).toArray⟩) := by
  rw [blk_cell (h 4 _ rfl)]
  match k, hk with
  | 0, _ => rfl | 1, _ => rfl | 2, _ => rfl | 3, _ => rfl | 4, _ => rfl | 5, _ => rfl
def kV (s k : Nat) : Value := match k with
  | 0 => rowS (s + 7) 2 | 1 => rowS (s + 9) 1 | 2 => rowS (s + 12) 2 | 3 => rowS (s + 15) 2 | 4 => rowS (s + 18) 2 | _ => rowS (s + 21) 2
theorem KnB.wnt {W : World} {s : Nat} (h : KnB W s) (k : Nat) (hk : k < 6) : W.cell? ⟨s + 22, k, none⟩ = some (kV s k) := by
  rw [blk_cell (h 22 _ rfl)]
  match k, hk with
  | 0, _ => rfl | 1, _ => rfl | 2, _ => rfl | 3, _ => rfl | 4, _ => rfl | 5, _ => rfl
theorem KnB.row {W : World} {s : Nat} (h : KnB W s) (j : Nat) (r : List Pl.V) (hj : (kObjs s)[j]? = some (rowO r)) (n : Nat) (hn : r.length = n) : RowsW W W.heap.size 3 vC r (rowS (s + j) n) := by
  subst hn
  exact row_new (h j _ hj) rfl
theorem mat2 {W : World} {s j a b n m : Nat} {r q : List Pl.V} (h : KnB W s) (hj : (kObjs s)[j]? = some (.cells #[rowS (s + a) n, rowS (s + b) m] 32)) (h1 : (kObjs s)[a]? = some (rowO r)) (h2 : (kObjs s)[b]? = some (rowO q)) (hn : r.length = n) (hm : q.length = m) : MatO W [r, q] (rowS (s + j) 2) := by
  refine mat_new (us := [rowS (s + a) n, rowS (s + b) m]) (h j _ hj) rfl (fun i x u hx hu => ?_)
  match i with
  | 0 => simp at hx hu; subst hx hu; exact h.row a _ h1 n hn
  | 1 => simp at hx hu; subst hx hu; exact h.row b _ h2 m hm
  | i + 2 => simp at hx
theorem mat1 {W : World} {s j a n : Nat} {r : List Pl.V} (h : KnB W s) (hj : (kObjs s)[j]? = some (.cells #[rowS (s + a) n] 32)) (h1 : (kObjs s)[a]? = some (rowO r)) (hn : r.length = n) : MatO W [r] (rowS (s + j) 1) := by
  refine mat_new (us := [rowS (s + a) n]) (h j _ hj) rfl (fun i x u hx hu => ?_)
  match i with
  | 0 => simp at hx hu; subst hx hu; exact h.row a _ h1 n hn
  | i + 1 => simp at hx
theorem KnB.mat {W : World} {s : Nat} (h : KnB W s) (k : Nat) (hk : k < 6) : MatO W (kWant k) (kV s k) := by
  match k, hk with
  | 0, _ => exact mat2 h (a := 5) (b := 6) rfl rfl rfl rfl rfl
  | 1, _ => exact mat1 h (a := 8) rfl rfl rfl
  | 2, _ => exact mat2 h (a := 10) (b := 11) rfl rfl rfl rfl rfl
  | 3, _ => exact mat2 h (a := 13) (b := 14) rfl rfl rfl rfl rfl
  | 4, _ => exact mat2 h (a := 16) (b := 17) rfl rfl rfl rfl rfl
  | 5, _ => exact mat2 h (a := 19) (b := 20) rfl rfl rfl rfl rfl
theorem kV_slice (s k : Nat) : ∃ g n, kV s k = .slice (some ⟨g, 0, none⟩) n n := by
  match k with
  | 0 => exact ⟨_, _, rfl⟩ | 1 => exact ⟨_, _, rfl⟩ | 2 => exact ⟨_, _, rfl⟩ | 3 => exact ⟨_, _, rfl⟩ | 4 => exact ⟨_, _, rfl⟩ | _ + 5 => exact ⟨_, _, rfl⟩
set_option maxHeartbeats 8000000 in
set_option maxRecDepth 100000 in
theorem knownM (L : LexLib) (X : MachLib) (S : SaveLib) (HS : StableM 19) (c : Int) (w : World) (hc : Pl.in64 c) (hg : Globs w) (hs : SaveG w) :
    Calls Tryz.prog 10 #[.int .i64 c] w fun e w' => e = .returned (.bool true) ∧ Below w.heap.size w w' := by
  have HG := hide hg
  have HLex := hide L
  have HMach := hide X
  have HSav := hide S
  have HSt := hide HS
  have HPick := hide (fun W => pickM c 7 W hc (by omega) (by omega))
  have HV0 := hide (SvG.new hs)
  clear hg L X S HS hc hs
  go_enter Tryz.func10, Tryz.ntmps10
  go_wp2_with fail
  refine (newM w).mono ?_
  rintro e w1 ⟨rfl, rfl⟩
  have HL1 := hide (Live.new HG.out)
  have HN1 : Hid (∀ W M', Stp (w.alloc dbO) (oneB w.heap.size) W M' → Below w.heap.size w W) := fun W M' h => stp_own ((Below.refl _ _).alloc (Nat.le_refl _) _) (fun k hk => Nat.le_of_eq (Eq.symm hk)) h (by simp)
  generalize w.alloc dbO = w1 at *
  generalize hbb : w.heap.size = bb at *
  generalize oneB bb = M1 at *
  have HC := hide (doesY HLex.out HMach.out HL1.out (t := Pl.kCreate) (by decide) (execOk_kind (k := 99) (by kernel_rfl) (by decide) (by decide)) Pl.k_create rfl)
  have HBB := hide hbb
  clear hbb HG
  go_wp2_with fail
  refine (unhide HC).mono ?_
  rintro e w2 ⟨rfl, M2, lay2, hs2, hl2⟩
  have HS2 := hide hs2
  have HC := hide (doesY HLex.out HMach.out hl2 (t := Pl.kIns1) (by decide) (execOk_kind (k := 105) (by kernel_rfl) (by decide) (by decide)) Pl.k_ins1 rfl)
  clear hs2 hl2 HL1
  go_wp2_with fail
  refine (unhide HC).mono ?_
  rintro e w3 ⟨rfl, M3, lay3, hs3, hl3⟩
  have HS3 := hide (HS2.out.trans hs3)
  have HC := hide (doesY HLex.out HMach.out hl3 (t := Pl.kIns2) (by decide) (execOk_kind (k := 105) (by kernel_rfl) (by decide) (by decide)) Pl.k_ins2 rfl)
  clear hs3 hl3 HS2
  go_wp2_with fail
  refine (unhide HC).mono ?_
  rintro e w4 ⟨rfl, M4, lay4, hs4, hl4⟩
  have HS4 := hide (HS3.out.trans hs4)
  have HL4 := hide hl4
  clear hs4 hl4 HC HS3
  go_upto_region 15 with fail
  go_cut [11, 12, 13] (fun s11 s12 s13 wx => ∃ g h : Nat, s11 = .slice (some ⟨g, 0, none⟩) 6 6 ∧ s12 = .slice (some ⟨h, 0, none⟩) 6 6 ∧ s13 = .int .i64 (Pl.pickK c 7 : Nat) ∧ Hid (KnW w4 wx g h))
  case first =>
    go_wp2_with fail
    refine ((unhide HPick) _).mono ?_
    rintro e w5 ⟨rfl, rfl⟩
    go_wp2_with fail
    go_meet
    exact ⟨_, _, rfl, rfl, rfl, KnW.new w4⟩
  case rest =>
    obtain ⟨g, h, rfl, rfl, rfl, HKn⟩ := hcut
    have hk7 : Pl.pickK c 7 < 7 := Nat.mod_lt _ (by omega)
    generalize Pl.pickK c 7 = k at *
    have HSw := hide (HS4.out.trans (Stp.below _ HKn.out.bel))
    have HLw := hide (HL4.out.below HKn.out.bel)
    have HKb := hide HKn.out.blk
    have HMw : Hid (∀ k, M4 k → k < w4.heap.size) := HL4.out.ex.db.lt
    obtain ⟨rfl, rfl, _, _⟩ := HKn.out
    generalize w4.heap.size = s at *
    clear HKn HS4 HL4 HPick
    by_cases hk : k < 6
    · have t0 := HKb.out.txt k hk
      have hz4 : s + 4 < wc.heap.size := lt_of_blk (HKb.out 4 _ rfl)
      have HC := hide (rowsY HLex.out HMach.out HLw.out (kSel_len k) (kSel_ok HSt.out k) (kSel_exec k) rfl)
      have hk6 : (k : Int) < 6 := by omega
      have HSm : Hid (∀ W, KnB W s → ∀ v, MatO W (kWant k) v → Calls _ _ _ W _) := fun W hW v hv => sameY (kWant k) v (kV s k) W hv (hW.mat k hk) (by have := (kWant_len k).1; omega) (fun r hr => by have := (kWant_len k).2 r hr; omega)
      have HT1 : Hid (∀ W, KnB W s → W.cell? ⟨s + 22, k, none⟩ = some (kV s k) ∧ s + 22 < W.heap.size) := fun W hW => ⟨hW.wnt k hk, lt_of_blk (hW 22 _ rfl)⟩
      obtain ⟨gv, nv, hv⟩ := kV_slice s k
      rw [hv] at HSm HT1
      generalize kSel k = tx at *
      generalize kWant k = wt at *
      clear hv HLw hk7 hk
      go_wp2_with fail
      refine (unhide HC).mono ?_
      rintro e w5 ⟨v5, M5, lay5, rfl, hs5, hl5, hg5⟩
      obtain ⟨a5, c5, rfl⟩ := hg5.slice
      have hkb := HKb.out.step HMw.out hs5
      obtain ⟨t1, hz22⟩ := HT1.out _ hkb
      have HC := hide (HSm.out _ hkb _ hg5.mato)
      have HS5 := hide (HSw.out.trans hs5)
      clear hs5 hl5 hg5 hkb HSw t0 HKb HMw HT1 HSm
      go_wp2_with fail
      refine (unhide HC).mono ?_
      rintro e w6 ⟨rfl, hb6⟩
      have HB6 := hide (HN1.out _ _ (HS5.out.trans (Stp.below _ hb6)))
      clear hb6 HC HS5
      go_wp2_with fail
      go_ret
      exact ⟨rfl, by rw [HBB.out]; exact HB6.out⟩
    · obtain rfl : k = 6 := by omega
      clear HKb HMw hk hk7
      have HC := hide (execK HLex.out HMach.out HLw.out (t := Pl.kBad0) (by decide) (k_ok HSt.out (.inr (by kernel_rfl))) (Pl.k_bad0 : Pl.exec Pl.kDb Pl.kBad0 = (Pl.kDb, ⟨[], 0, 2⟩)))
      go_wp2_with fail
      refine (unhide HC).mono ?_
      rintro e w5 ⟨rv5, M5, lay5, rfl, hs5, hl5, hg5⟩
      obtain ⟨a5, c5, rfl⟩ := hg5.slice
      have HS5 : Hid (Stp w1 M1 (w5.alloc (.cells #[.slice a5 0 c5, .int .i64 0] 36)) M5) := stp_box (HSw.out.trans hs5) _
      have HL5 := hide (live_box hl5 (.cells #[.slice a5 0 c5, .int .i64 0] 36))
      clear hs5 hl5 hg5 HC HSw HLw
      have HC := hide (execK HLex.out HMach.out HL5.out (t := Pl.kBad1) (by decide) (k_ok HSt.out (.inl (by kernel_rfl))) (Pl.k_bad1 : Pl.exec Pl.kDb Pl.kBad1 = (Pl.kDb, ⟨[], 0, 3⟩)))
      go_wp2_with fail
      refine (unhide HC).mono ?_
      rintro e w6 ⟨rv6, M6, lay6, rfl, hs6, hl6, hg6⟩
      obtain ⟨a6, c6, rfl⟩ := hg6.slice
      have HS6 : Hid (Stp w1 M1 (w6.alloc (.cells #[.slice a6 0 c6, .int .i64 0] 36)) M6) := stp_box (HS5.out.trans hs6) _
      have HL6 := hide (live_box hl6 (.cells #[.slice a6 0 c6, .int .i64 0] 36))
      clear hs6 hl6 hg6 HC HS5 HL5
      have HC := hide (execK HLex.out HMach.out HL6.out (t := Pl.kBad2) (by decide) (k_ok HSt.out (.inl (by kernel_rfl))) (Pl.k_bad2 : Pl.exec Pl.kDb Pl.kBad2 = (Pl.kDb, ⟨[], 0, 5⟩)))
      go_wp2_with fail
      refine (unhide HC).mono ?_
      rintro e w7 ⟨rv7, M7, lay7, rfl, hs7, hl7, hg7⟩
      obtain ⟨a7, c7, rfl⟩ := hg7.slice
      have HS7 : Hid (Stp w1 M1 (w7.alloc (.cells #[.slice a7 0 c7, .int .i64 0] 36)) M7) := stp_box (HS6.out.trans hs7) _
      have HL7 := hide (live_box hl7 (.cells #[.slice a7 0 c7, .int .i64 0] 36))
      clear hs7 hl7 hg7 HC HS6 HL6
      have HC := hide (execK HLex.out HMach.out HL7.out (t := Pl.kBad3) (by decide) (k_ok HSt.out (.inl (by kernel_rfl))) (Pl.k_bad3 : Pl.exec Pl.kDb Pl.kBad3 = (Pl.kDb, ⟨[], 0, 5⟩)))
      go_wp2_with fail
      refine (unhide HC).mono ?_
      rintro e w8 ⟨rv8, M8, lay8, rfl, hs8, hl8, hg8⟩
      obtain ⟨a8, c8, rfl⟩ := hg8.slice
      have HS8 : Hid (Stp w1 M1 (w8.alloc (.cells #[.slice a8 0 c8, .int .i64 0] 36)) M8) := stp_box (HS7.out.trans hs8) _
      have HL8 := hide (live_box hl8 (.cells #[.slice a8 0 c8, .int .i64 0] 36))
      clear hs8 hl8 hg8 HC HS7 HL7
      have HC := hide (saveM HSav.out HL8.out.ex.db (HV0.out.step HS8.out).g)
      rw [Pl.k_save] at HC
      clear HL8
      go_wp2_with fail
      refine (unhide HC).mono ?_
      rintro e w9 ⟨rfl, hb9⟩
      have HB9 := hide (HN1.out _ _ (HS8.out.trans (Stp.below _ hb9)))
      clear hb9 HC HS8 HV0
      go_wp2_with fail
      go_ret
      exact ⟨rfl, by rw [HBB.out]; exact HB9.out⟩
end Go.Proofs.YtojdpjpldokjmaaGreatDoor
