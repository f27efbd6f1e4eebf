/- The code's lexer: texts. -/
import Derived.Test.YtojdpjpldokjmaaGreatDoorJ12
import Derived.Test.YtojdpjpldokjmaaGreatDoorJ04
import Derived.Test.YtojdpjpldokjmaaGreatDoorJ06
namespace Go.Proofs.YtojdpjpldokjmaaGreatDoor
open Go.RowKit Go.Deep
set_option linter.unusedSimpArgs false
set_option linter.unusedVariables false

theorem Tryz.infoByte : (Tryz.prog.info? 5).map (fun i => (i.zero, i.size, i.bytes)) = some (some (.int .u8 0), 1, 1) := by kernel_rfl
def byteCells (l : List UInt8) : List Value := l.map (fun c => Value.int .u8 c.toNat)
theorem own_slice1 {w : World} {base : Nat} {e : TypeId} {size n : Nat} {v : Value} {xs : List Value} (h : w.ownsRow base e size v n xs) : ∃ a c, v = .slice a n c := by
  rcases h.2 with ⟨rfl, rfl⟩ | ⟨g, cap, cur, rfl, _⟩
  · exact ⟨none, 0, rfl⟩
  · exact ⟨_, _, rfl⟩
set_option maxRecDepth 100000 in
theorem conv_own {w : World} {base c : Nat} {a : Option Addr} {l : List UInt8} (h : w.ownsRow base 5 1 (.slice a l.length c) l.length (byteCells l)) :
    (convert 83 9 (.slice a l.length c)).run Tryz.prog w = .ok (.string ⟨l.toArray⟩) w := by
  rcases h.2 with ⟨e, h0⟩ | ⟨g, cap, cur, e, _, _⟩
  · injection e with e1 e2 e3
    subst e1
    have : l = [] := by simpa using h0
    subst this
    exact run_convert_bytes_nil (P := Tryz.prog) w 83 5 Tryz.underlying83 Tryz.underlying5 _ _ 9 Tryz.underlying9
  · injection e with e1 e2 e3
    subst e1
    have hc := h.cells (g := g) rfl
    have := run_convert_bytes_arg (P := Tryz.prog) w 83 5 Tryz.underlying83 Tryz.underlying5 g 0 l.length c (l.map (fun c => (c.toNat : Int))) (by simp) (by
      intro i hi
      have h2 := hc i (.int .u8 l[i].toNat) (by unfold byteCells; simp [hi])
      have hadd : (⟨g, 0, none⟩ : Addr).add i = ⟨g, 0 + i, none⟩ := by unfold Addr.add; split <;> simp_all
      rw [hadd] at h2
      rw [h2]
      simp [List.getD_eq_getElem?_getD, hi]) 9 Tryz.underlying9
    rw [this]
    unfold strOfNums
    rw [List.map_map, show l.map ((fun n : Int => UInt8.ofNat n.toNat) ∘ fun c : UInt8 => (c.toNat : Int)) = l from (List.map_congr_left (fun c _ => by simp)).trans (List.map_id l)]

set_option maxHeartbeats 400000 in
set_option maxRecDepth 100000 in
theorem closed_any (l : List UInt8) (v : Value) (k : Int) (base : Nat) (w : World) (hl : l.length ≤ 1048576) (hown : w.ownsRow base 5 1 v l.length (byteCells l)) :
    Calls Tryz.prog 207 #[v, .int .i64 k] w fun e w' => e = .returned (if 40 < l.length then .tuple #[Pl.tok0, .int .i64 0] else .tuple #[.agg #[.int .i64 3, .int .i64 0, .string ⟨l.toArray⟩], .int .i64 k]) ∧ Below w.heap.size w w' := by
  obtain ⟨a, c, rfl⟩ := own_slice1 hown
  by_cases h40 : 40 < l.length
  · rw [if_pos h40]
    clear hown
    go_enter Tryz.func207, Tryz.ntmps207
    go_wp2_with fail
    refine bodyPost_ret (v := .tuple #[Pl.tok0, .int .i64 0]) ?_ rfl ⟨rfl, (Below.refl _ _).alloc (Nat.le_refl _) _⟩
    simp [results, Tryz.results207, go_sem, Pl.tok0]
  · rw [if_neg h40]
    have hcv := conv_own (hown.alloc (.cells #[.int .i64 0, .int .i64 0, .string ⟨#[]⟩] 180))
    clear hown
    go_enter Tryz.func207, Tryz.ntmps207
    go_wp2_with fail
    refine bodyPost_ret (v := .tuple #[.agg #[.int .i64 3, .int .i64 0, .string ⟨l.toArray⟩], .int .i64 k]) ?_ rfl ⟨rfl, ?_⟩
    · simp [results, Tryz.results207, go_sem]
    · exact (Below.refl _ _).alloc (Nat.le_refl _) _

/-- Where a text is read: 'acc' so far; what is left of it is read at k. -/
def litIn (s : ByteArray) (k : Nat) (acc : List UInt8) : Prop := Pl.litTok [] (Pl.from_ s 1) = Pl.litTok acc (Pl.from_ s k)
theorem litIn_plain {s : ByteArray} {k : Nat} {acc : List UInt8} (hlt : k < s.size) (h : litIn s k acc) (hc : s[k].toNat ≠ 39) : litIn s (k + 1) (acc ++ [s[k]]) := by
  unfold litIn at *
  rw [h, Pl.from_lt s k hlt]
  by_cases h2 : k + 1 < s.size
  · rw [Pl.from_lt s (k + 1) h2, Pl.litTok, if_neg hc]
  · rw [Pl.from_ge s (k + 1) (by omega)]
    simp [Pl.litTok, hc]
theorem litIn_two {s : ByteArray} {k : Nat} {acc : List UInt8} (hlt : k + 1 < s.size) (h : litIn s k acc) (hc : s[k].toNat = 39) (hd : s[k + 1].toNat = 39) : litIn s (k + 2) (acc ++ [s[k + 1]]) := by
  unfold litIn at *
  rw [h, Pl.from_lt s k (by omega), Pl.from_lt s (k + 1) hlt, Pl.litTok, if_pos hc, if_pos hd, byte39 hc, byte39 hd]
theorem litIn_end {s : ByteArray} {k : Nat} {acc : List UInt8} (hlt : k < s.size) (h : litIn s k acc) (hc : s[k].toNat = 39) (hd : ¬ k + 1 < s.size ∨ ∃ h : k + 1 < s.size, s[k + 1].toNat ≠ 39) :
    Pl.litTok [] (Pl.from_ s 1) = (if 40 < acc.length then Pl.bad else ⟨3, 0, acc⟩, Pl.from_ s (k + 1)) := by
  unfold litIn at h
  rw [h, Pl.from_lt s k hlt]
  rcases hd with hd | ⟨h2, hd⟩
  · rw [Pl.from_ge s (k + 1) (by omega), Pl.litTok, if_pos hc]
  · rw [Pl.from_lt s (k + 1) h2, Pl.litTok, if_pos hc, if_neg hd]
theorem litIn_none {s : ByteArray} {k : Nat} {acc : List UInt8} (hlt : ¬ k < s.size) (h : litIn s k acc) : (Pl.litTok [] (Pl.from_ s 1)).1.k = 99 := by
  unfold litIn at h
  rw [h, Pl.from_ge s k (by omega), Pl.litTok]; rfl
/-- Does a text go on with two signs? -/
theorem pre2 (s : ByteArray) (k : Nat) (hk : k < s.size) (hc : s[k].toNat = 39) : List.isPrefixOf [39, 39] (s.extract k s.size).data.toList = true ↔ ∃ h : k + 1 < s.size, s[k + 1].toNat = 39 := by
  have e : (s.extract k s.size).data.toList = Pl.from_ s k := by
    rw [ext_list, List.take_of_length_le (by simp)]; rfl
  rw [e, Pl.from_lt s k hk]
  by_cases h2 : k + 1 < s.size
  · rw [Pl.from_lt s (k + 1) h2]
    simp only [List.isPrefixOf, Bool.and_eq_true, beq_iff_eq]
    constructor
    · rintro ⟨_, h, _⟩; exact ⟨h2, by rw [← h]; rfl⟩
    · rintro ⟨_, h⟩; exact ⟨(byte39 hc).symm, (byte39 h).symm, trivial⟩
  · rw [Pl.from_ge s (k + 1) (by omega)]
    simp [List.isPrefixOf, h2]

/-- A byte behind others: what the loop keeps. -/
theorem push_byte {w wr w2 : World} {acc : List UInt8} {c : UInt8} {v v' : Value} {C : Array Value} {t : TypeId} {X : Obj} (hown : wr.ownsRow (w.heap.size + 1) 5 1 v acc.length (byteCells acc)) (hbx : wr.heap[w.heap.size]? = some X) (hW : Below w.heap.size w wr)
    (hown2 : w2.ownsRow (w.heap.size + 1) 5 1 v' (acc.length + 1) (byteCells acc ++ [.int .u8 (c.toNat : Nat)])) (hg : (wr.alloc (.cells C t)).grownBy w2 v.ownBlock) :
    w2.ownsRow (w.heap.size + 1) 5 1 v' (acc ++ [c]).length (byteCells (acc ++ [c])) ∧ Hid (w2.heap[w.heap.size]? = some X) ∧ Hid (Below w.heap.size w w2) := by
  have hlt : ∀ k, v.ownBlock = some k → w.heap.size + 1 ≤ k := fun k e => (hown.lt k e).1
  have hz := lt_of_blk hbx
  refine ⟨by unfold byteCells at *; simpa using hown2, ?_, ?_⟩
  · show w2.heap[w.heap.size]? = some X
    rw [hg.block w.heap.size (by simp; omega) (fun e => by have := hlt _ e.symm; omega)]
    exact blk_alloc hbx _
  · exact (hW.alloc hW.size _).trans ⟨hg.os, hg.tape, hg.output, hg.size, fun i hi => hg.block i (by simp; omega) (fun e => by have := hlt _ e.symm; omega)⟩

set_option maxHeartbeats 1000000 in
set_option maxRecDepth 100000 in
theorem quoted_any (X : LexLib) (s : ByteArray) (w : World) (hs : s.size ≤ 1048576) (h1 : 0 < s.size) :
    Calls Tryz.prog 147 #[.string s] w fun e w' => e = .returned (Pl.cut1 (Pl.litTok [] (Pl.from_ s 1)) s.data.toList) ∧ Below w.heap.size w w' := by
  have HX := hide X.pre
  obtain ⟨i0, hi, hz0, hz1, hz2⟩ := info_parts Tryz.infoByte
  clear X
  go_enter Tryz.func147, Tryz.ntmps147
  go_wp2_with fail
  go_loopw [4, 5] (fun v a wr => ∃ (k : Nat) (acc : List UInt8), 1 ≤ k ∧ k ≤ s.size ∧ acc.length ≤ k ∧ a = .int .i64 k ∧ Hid (litIn s k acc) ∧ wr.ownsRow (w.heap.size + 1) 5 1 v acc.length (byteCells acc) ∧ Hid (wr.heap[w.heap.size]? = some (.cells #[.int .i64 0, .int .i64 0, .string ⟨#[]⟩] 180)) ∧ Hid (Below w.heap.size w wr)) (fun _ a _ => s.size - (intOf a).toNat)
  case atStart => exact ⟨1, [], by omega, by omega, by simp, rfl, rfl, World.ownsRow_nil _ _ _ _, blk_new _ _, (Below.refl _ _).alloc (Nat.le_refl _) _⟩
  case round =>
    obtain ⟨k, acc, hk, hks, hal, rfl, HL, hown, HB, HW⟩ := hrel
    obtain ⟨va, vc, rfl⟩ := own_slice1 hown
    have hzr : w.heap.size < wr.heap.size := lt_of_blk HB.out
    by_cases hlt : k < s.size
    · by_cases hc : s[k].toNat = 39
      · have HP := hide (pre2 s k hlt hc)
        have HC : Hid (∀ w, Calls Tryz.prog 206 #[.string (s.extract k s.size), .string ⟨#[39, 39]⟩] w fun e w' => e = .returned (.bool (List.isPrefixOf [39, 39] (s.extract k s.size).data.toList)) ∧ w' = w) := fun w => HX.out _ _ w
        have hc' : (((s[k].toNat : Nat) : Int) == 39) = true := by simp; omega
        cases hp : List.isPrefixOf [39, 39] (s.extract k s.size).data.toList
        · have HE := hide (litIn_end hlt HL.out hc (by
            by_cases h2 : k + 1 < s.size
            · exact .inr ⟨h2, fun h => by rw [HP.out.2 ⟨h2, h⟩] at hp; cases hp⟩
            · exact .inl h2))
          have HCL := hide (fun w1 (h : wr = w1) => h ▸ closed_any acc (.slice va acc.length vc) ((k : Int) + 1) _ wr (by omega) hown)
          have hbx := HB.out
          have b0 := blk_cell hbx 0
          have b1 := blk_cell hbx 1
          have b2 := blk_cell hbx 2
          have bf := blk_frozen hbx
          simp at b0 b1 b2
          clear hown hc
          by_cases h40 : 40 < acc.length
          · rw [if_pos h40] at HCL
            have HV : Hid (Pl.cut1 (Pl.litTok [] (Pl.from_ s 1)) s.data.toList = .tuple #[Pl.tok0, .int .i64 0]) := Pl.cut1_bad (by rw [HE.out, if_pos h40]; rfl)
            go_wp2_with fail
            refine (unhide HC _).mono ?_
            rintro e w1 ⟨rfl, rfl⟩
            rw [hp]
            go_wp2_with fail
            refine (unhide HCL _ rfl).mono ?_
            rintro e w2 ⟨rfl, hb⟩
            obtain ⟨c1, f1⟩ := bcell hb
            unfold Pl.tok0
            go_wp2_with fail
            refine bodyPost_ret (v := .tuple #[Pl.tok0, .int .i64 0]) ?_ rfl ⟨by rw [HV.out], ?_⟩
            · simp [results, Tryz.results147, go_sem, Pl.tok0, c1, hzr, b0, b1, b2]
            · exact below_box (HW.out.trans (hb.mono (by omega))) _ _ _
          · rw [if_neg h40] at HCL
            have HV : Hid (Pl.cut1 (Pl.litTok [] (Pl.from_ s 1)) s.data.toList = .tuple #[.agg #[.int .i64 3, .int .i64 0, .string ⟨acc.toArray⟩], .int .i64 ((k : Int) + 1)]) := by
              unfold Hid
              rw [HE.out, if_neg h40, Pl.cut1_ok (by show (3 : Nat) ≠ 99; decide), Pl.cTok_eq]
              simp only
              rw [show (s.data.toList.length - (Pl.from_ s (k + 1)).length : Nat) = k + 1 by unfold Pl.from_; simp; omega]
              rfl
            go_wp2_with fail
            refine (unhide HC _).mono ?_
            rintro e w1 ⟨rfl, rfl⟩
            rw [hp]
            go_wp2_with fail
            refine (unhide HCL _ rfl).mono ?_
            rintro e w2 ⟨rfl, hb⟩
            obtain ⟨c1, f1⟩ := bcell hb
            go_wp2_with fail
            refine bodyPost_ret (v := .tuple #[.agg #[.int .i64 3, .int .i64 0, .string ⟨acc.toArray⟩], .int .i64 ((k : Int) + 1)]) ?_ rfl ⟨by rw [HV.out], ?_⟩
            · simp [results, Tryz.results147, go_sem, c1, hzr, b0, b1, b2]
            · exact below_box (HW.out.trans (hb.mono (by omega))) _ _ _
        · obtain ⟨h2, hd⟩ := HP.out.1 hp
          have HR := hide (litIn_two h2 HL.out hc hd)
          clear hc HL hd
          go_wp2_with fail
          refine (unhide HC _).mono ?_
          rintro e w1 ⟨rfl, rfl⟩
          rw [hp]
          go_wp2_with (at_builtin; refine wpList_append_own _ rfl (.tmp 29) (.tmp 33) 83 rfl (w.heap.size + 1) 5 i0 _ 1 1 Tryz.underlying83 hi hz0 hz1 hz2 rfl (by decide) _ _ _ rfl (hown.alloc _) ⟨w1.heap.size, 0, none⟩ 1 1 [.int .u8 (s[k + 1].toNat : Nat)] rfl rfl ?c1 ?c2 ?c3 ?c4 ?c5 ?_)
          case c1 => exact news_at w1 [.int .u8 (s[k + 1].toNat : Nat)] 5
          case c2 => intro u hu; simp at hu; subst hu; rfl
          case c3 => unfold maxLen; omega
          case c4 => omega
          case c5 => simp; omega
          intro v' w2 hown2 hg2 hnil
          obtain ⟨ho2, hb2, hw2⟩ := push_byte hown HB.out HW.out hown2 hg2
          clear hown hown2 hg2 hnil
          go_wp2_with fail
          go_roundw
          case rel => exact ⟨k + 2, acc ++ [s[k + 1]], by omega, by omega, by simp; omega, by go_num, HR, ho2, hb2, hw2⟩
          case measure => simp [intOf]; omega
      · have HR := hide (litIn_plain hlt HL.out hc)
        have hc' : (((s[k].toNat : Nat) : Int) == 39) = false := by simp; omega
        clear hc HL
        go_wp2_with (at_builtin; refine wpList_append_own _ rfl (.tmp 29) (.tmp 33) 83 rfl (w.heap.size + 1) 5 i0 _ 1 1 Tryz.underlying83 hi hz0 hz1 hz2 rfl (by decide) _ _ _ rfl (hown.alloc _) ⟨wr.heap.size, 0, none⟩ 1 1 [.int .u8 (s[k].toNat : Nat)] rfl rfl ?c1 ?c2 ?c3 ?c4 ?c5 ?_)
        case c1 => exact news_at wr [.int .u8 (s[k].toNat : Nat)] 5
        case c2 => intro u hu; simp at hu; subst hu; rfl
        case c3 => unfold maxLen; omega
        case c4 => omega
        case c5 => simp; omega
        intro v' w2 hown2 hg2 hnil
        obtain ⟨ho2, hb2, hw2⟩ := push_byte hown HB.out HW.out hown2 hg2
        clear hown hown2 hg2 hnil
        go_wp2_with fail
        go_roundw
        case rel => exact ⟨k + 1, acc ++ [s[k]], by omega, by omega, by simp; omega, by go_num, HR, ho2, hb2, hw2⟩
        case measure => simp [intOf]; omega
    · have HV := hide (Pl.cut1_bad (l := s.data.toList) (litIn_none hlt HL.out))
      have hbx := HB.out
      have b0 := blk_cell hbx 0
      have b1 := blk_cell hbx 1
      have b2 := blk_cell hbx 2
      have bf := blk_frozen hbx
      simp at b0 b1 b2
      clear hown HL
      go_wp2_with fail
      refine bodyPost_ret (v := .tuple #[Pl.tok0, .int .i64 0]) ?_ rfl ⟨by rw [HV.out], ?_⟩
      · simp [results, Tryz.results147, go_sem, Pl.tok0, hzr, b0, b1, b2]
      · exact below_box HW.out _ _ _
end Go.Proofs.YtojdpjpldokjmaaGreatDoor
/- The code's lexer: first, skipBlanks, Cut. -/
namespace Go.Proofs.YtojdpjpldokjmaaGreatDoor
open Go.RowKit Go.Deep
set_option linter.unusedSimpArgs false
set_option linter.unusedVariables false

namespace Pl
theorem dw_suffix (p : UInt8 → Bool) : ∀ l : List UInt8, l.dropWhile p <:+ l
  | [] => List.suffix_refl _
  | c :: r => by
    rw [List.dropWhile_cons]; split
    · exact (dw_suffix p r).trans (List.suffix_cons c r)
    · exact List.suffix_refl _
theorem litTok_suffix : ∀ (acc l : List UInt8), (litTok acc l).2 <:+ l
  | _, [] => by simp [litTok]
  | acc, [c] => by unfold litTok; split <;> exact List.nil_suffix
  | acc, c :: d :: r => by
    unfold litTok
    split
    · split
      · exact (litTok_suffix _ r).trans ((List.suffix_cons d r).trans (List.suffix_cons c _))
      · exact List.suffix_cons c _
    · exact (litTok_suffix _ (d :: r)).trans (List.suffix_cons c _)
theorem signTok_suffix : ∀ (l : List UInt8), (signTok l).2 <:+ l
  | [] => List.suffix_refl _
  | [c] => List.nil_suffix
  | c :: d :: r => by
    simp only [signTok]; split
    · exact List.suffix_cons c _
    · exact (List.suffix_cons d r).trans (List.suffix_cons c _)
theorem headTok_suffix : ∀ (l : List UInt8), (headTok l).2 <:+ l
  | [] => List.suffix_refl _
  | c :: r => by
    simp only [headTok]
    split
    · exact dw_suffix _ _
    · split
      · exact dw_suffix _ _
      · split
        · exact (litTok_suffix _ r).trans (List.suffix_cons c r)
        · exact signTok_suffix _
theorem headTok_drop (l : List UInt8) : l.drop (l.length - (headTok l).2.length) = (headTok l).2 := by
  obtain ⟨pre, h⟩ := headTok_suffix l
  have hl : l.length - (headTok l).2.length = pre.length := by
    have := congrArg List.length h; simp at this; omega
  rw [hl]
  generalize (headTok l).2 = z at h
  subst h; simp
theorem headTok_k0 (c : UInt8) (r : List UInt8) : (headTok (c :: r)).1.k ≠ 0 := by
  have bk : bad.k = 99 := rfl
  simp only [headTok]
  split
  · rcases wordTok_k (List.takeWhile isLD (c :: r)) with h | h | h
    · simp only; omega
    · simp only; omega
    · simp only; rw [h]; decide
  · split
    · rcases numTok_k (List.takeWhile isDig (c :: r)) with h | h
      · simp only; omega
      · simp only; rw [h]; decide
    · split
      · rcases litTok_k [] r with h | h
        · omega
        · rw [h]; decide
      · cases r with
        | nil =>
          have := oneSign_k c.toNat
          unfold signK at this
          simp only [signTok]; omega
        | cons d r =>
          have h1 := oneSign_k c.toNat
          have h2 := twoSign_k c.toNat d.toNat
          unfold signK at h1 h2
          simp only [signTok]
          split
          · simp only; omega
          · simp only; omega
theorem dw_dw (p : UInt8 → Bool) : ∀ l : List UInt8, (l.dropWhile p).dropWhile p = l.dropWhile p
  | [] => rfl
  | c :: r => by
    rw [List.dropWhile_cons]; split
    · exact dw_dw p r
    · rename_i h; rw [List.dropWhile_cons, if_neg h]
theorem toks_dw (l : List UInt8) : toks (l.dropWhile isBlank) = toks l := by
  have h : look (l.dropWhile isBlank) = look l := by unfold look; rw [dw_dw]
  rw [toks_unfold, toks_unfold l, h]
end Pl
theorem cut1_form (z : Pl.Tok × List UInt8) (l : List UInt8) : ∃ (a b : Int) (c : ByteArray) (n : Int), Pl.cut1 z l = .tuple #[.agg #[.int .i64 a, .int .i64 b, .string c], .int .i64 n] := by
  unfold Pl.cut1
  split
  · exact ⟨_, _, _, _, rfl⟩
  · exact ⟨_, _, _, _, rfl⟩
theorem list_of (s : ByteArray) (h : 0 < s.size) : s.data.toList = s[0] :: Pl.from_ s 1 := by
  rw [← Pl.from_zero, Pl.from_lt s 0 h]
set_option maxHeartbeats 400000 in
set_option maxRecDepth 100000 in
theorem first_any (X : LexLib) (s : ByteArray) (w : World) (hs : s.size ≤ 1048576) (h0 : 0 < s.size) (hg : SpellAt w) (he : ErrAt w) :
    Calls Tryz.prog 94 #[.string s] w fun e w' => e = .returned (Pl.cut1 (Pl.headTok s.data.toList) s.data.toList) ∧ Below w.heap.size w w' := by
  have HL := hide (list_of s h0)
  cases hl : Pl.isLet s[0]
  · cases hd : Pl.isDig s[0]
    · by_cases hq : s[0].toNat = 39
      · have HV : Hid (Pl.headTok s.data.toList = Pl.litTok [] (Pl.from_ s 1)) := by
          unfold Hid; rw [HL.out]; simp only [Pl.headTok]; rw [if_neg (by simp [hl]), if_neg (by simp [hd]), if_pos hq]
        have HQ := hide (quoted_any X s)
        have hq' : (((s[0].toNat : Nat) : Int) == 39) = true := by simp; omega
        clear hq HL X hg he
        rw [HV.out]
        go_enter Tryz.func94, Tryz.ntmps94
        go_wp2_with (first | (go_at_call 143; refine (isLetter_any _ _).mono ?_; rintro e w' ⟨rfl, rfl⟩) | (go_at_call 145; refine (isDigit_any _ _).mono ?_; rintro e w' ⟨rfl, rfl⟩))
        refine (unhide HQ _ hs h0).mono ?_
        obtain ⟨a, b, c, n, hf⟩ := cut1_form (Pl.litTok [] (Pl.from_ s 1)) s.data.toList
        rw [hf]
        have HF := hide hf
        clear hf
        rintro e w2 ⟨rfl, hb⟩
        obtain ⟨c1, f1⟩ := bcell hb
        go_wp2_with fail
        refine bodyPost_ret (v := .tuple #[.agg #[.int .i64 a, .int .i64 b, .string c], .int .i64 n]) ?_ rfl ⟨by rw [HF.out], ?_⟩
        · simp [results, Tryz.results94, go_sem, c1]
        · exact below_box (((Below.refl _ _).alloc (Nat.le_refl _) _).trans (hb.mono (by simp))) _ _ _
      · have HV : Hid (Pl.headTok s.data.toList = Pl.signTok (s[0] :: Pl.from_ s 1)) := by
          unfold Hid; rw [HL.out]; simp only [Pl.headTok]; rw [if_neg (by simp [hl]), if_neg (by simp [hd]), if_neg hq]
        have HQ : Hid (∀ w, SpellAt w → Calls Tryz.prog 148 #[.string s] w fun e w' => e = .returned (Pl.cut1 (Pl.signTok (s[0] :: Pl.from_ s 1)) s.data.toList) ∧ Below w.heap.size w w') := by
          intro w hw
          have := sign_any X s[0] (Pl.from_ s 1) w hw
          rw [← HL.out] at this ⊢
          exact this
        have hq' : (((s[0].toNat : Nat) : Int) == 39) = false := by simp; omega
        have HG := hide hg
        clear hq HL X hg he
        rw [HV.out]
        go_enter Tryz.func94, Tryz.ntmps94
        go_wp2_with (first | (go_at_call 143; refine (isLetter_any _ _).mono ?_; rintro e w' ⟨rfl, rfl⟩) | (go_at_call 145; refine (isDigit_any _ _).mono ?_; rintro e w' ⟨rfl, rfl⟩))
        refine (unhide HQ _ (HG.out.below ((Below.refl _ _).alloc (Nat.le_refl _) _))).mono ?_
        obtain ⟨a, b, c, n, hf⟩ := cut1_form (Pl.signTok (s[0] :: Pl.from_ s 1)) s.data.toList
        rw [hf]
        have HF := hide hf
        clear hf
        rintro e w2 ⟨rfl, hb⟩
        obtain ⟨c1, f1⟩ := bcell hb
        go_wp2_with fail
        refine bodyPost_ret (v := .tuple #[.agg #[.int .i64 a, .int .i64 b, .string c], .int .i64 n]) ?_ rfl ⟨by rw [HF.out], ?_⟩
        · simp [results, Tryz.results94, go_sem, c1]
        · exact below_box (((Below.refl _ _).alloc (Nat.le_refl _) _).trans (hb.mono (by simp))) _ _ _
    · have HV : Hid (Pl.headTok s.data.toList = (Pl.numTok (s.data.toList.takeWhile Pl.isDig), s.data.toList.dropWhile Pl.isDig)) := by
        unfold Hid; rw [HL.out]; simp only [Pl.headTok]; rw [if_neg (by simp [hl]), if_pos hd]
      have HQ := hide (number_any X s)
      have HG := hide he
      have HN : Hid (s.data.toList.takeWhile Pl.isDig ≠ []) := by unfold Hid; rw [HL.out, List.takeWhile_cons_of_pos hd]; simp
      clear HL X hg he
      rw [HV.out]
      go_enter Tryz.func94, Tryz.ntmps94
      go_wp2_with (first | (go_at_call 143; refine (isLetter_any _ _).mono ?_; rintro e w' ⟨rfl, rfl⟩) | (go_at_call 145; refine (isDigit_any _ _).mono ?_; rintro e w' ⟨rfl, rfl⟩))
      refine (unhide HQ _ hs HN.out (HG.out.alloc _)).mono ?_
      obtain ⟨a, b, c, n, hf⟩ := cut1_form (Pl.numTok (s.data.toList.takeWhile Pl.isDig), s.data.toList.dropWhile Pl.isDig) s.data.toList
      rw [hf]
      have HF := hide hf
      clear hf
      rintro e w2 ⟨rfl, hb⟩
      obtain ⟨c1, f1⟩ := bcell hb
      go_wp2_with fail
      refine bodyPost_ret (v := .tuple #[.agg #[.int .i64 a, .int .i64 b, .string c], .int .i64 n]) ?_ rfl ⟨by rw [HF.out], ?_⟩
      · simp [results, Tryz.results94, go_sem, c1]
      · exact below_box (((Below.refl _ _).alloc (Nat.le_refl _) _).trans (hb.mono (by simp))) _ _ _
  · have HV : Hid (Pl.headTok s.data.toList = (Pl.wordTok (s.data.toList.takeWhile Pl.isLD), s.data.toList.dropWhile Pl.isLD)) := by
      unfold Hid; rw [HL.out]; simp only [Pl.headTok]; rw [if_pos hl]
    have HQ := hide (word_code X s)
    have HG := hide hg
    clear HL X hg he
    rw [HV.out]
    go_enter Tryz.func94, Tryz.ntmps94
    go_wp2_with (first | (go_at_call 143; refine (isLetter_any _ _).mono ?_; rintro e w' ⟨rfl, rfl⟩) | (go_at_call 145; refine (isDigit_any _ _).mono ?_; rintro e w' ⟨rfl, rfl⟩))
    refine (unhide HQ _ hs (HG.out.below ((Below.refl _ _).alloc (Nat.le_refl _) _))).mono ?_
    obtain ⟨a, b, c, n, hf⟩ := cut1_form (Pl.wordTok (s.data.toList.takeWhile Pl.isLD), s.data.toList.dropWhile Pl.isLD) s.data.toList
    rw [hf]
    have HF := hide hf
    clear hf
    rintro e w2 ⟨rfl, hb⟩
    obtain ⟨c1, f1⟩ := bcell hb
    go_wp2_with fail
    refine bodyPost_ret (v := .tuple #[.agg #[.int .i64 a, .int .i64 b, .string c], .int .i64 n]) ?_ rfl ⟨by rw [HF.out], ?_⟩
    · simp [results, Tryz.results94, go_sem, c1]
    · exact below_box (((Below.refl _ _).alloc (Nat.le_refl _) _).trans (hb.mono (by simp))) _ _ _

set_option maxHeartbeats 400000 in
set_option maxRecDepth 100000 in
theorem skip_any (X : LexLib) (s : ByteArray) (w : World) : Calls Tryz.prog 93 #[.string s] w fun e w' => e = .returned (.string ⟨(s.data.toList.dropWhile Pl.isBlank).toArray⟩) ∧ Below w.heap.size w w' := by
  have HQ := hide (X.trim s)
  clear X
  go_enter Tryz.func93, Tryz.ntmps93
  go_wp2_with fail
  refine (unhide HQ _).mono ?_
  rintro e w2 ⟨rfl, hb⟩
  go_wp2_with fail
  go_ret
  exact ⟨rfl, hb⟩

def tokCells (ts : List Pl.Tok) : List Value := ts.flatMap (fun t => [.int .i64 t.k, .int .i64 t.n, .string ⟨t.s.toArray⟩])
theorem tokCells_snoc (ts : List Pl.Tok) (t : Pl.Tok) : tokCells (ts ++ [t]) = tokCells ts ++ [.int .i64 t.k, .int .i64 t.n, .string ⟨t.s.toArray⟩] := by unfold tokCells; simp
theorem Tryz.infoToken : (Tryz.prog.info? 180).map (fun i => (i.zero, i.size, i.bytes)) = some (some (.agg #[.int .i64 0, .int .i64 0, .string { data := #[] }]), 3, 32) := by kernel_rfl
/-- What Cut answers: the tokens of a text, if each is one. -/
def PostC (w : World) (l : List UInt8) (e : Ending) (w' : World) : Prop :=
  Below w.heap.size w w' ∧ ((Pl.NoBad (Pl.toks l) ∧ ∃ a n c, e = .returned (.tuple #[.slice a n c, .bool true]) ∧ w'.ownsRow w.heap.size 180 3 (.slice a n c) (Pl.toks l).length (tokCells (Pl.toks l))) ∨ (¬ Pl.NoBad (Pl.toks l) ∧ e = .returned (.tuple #[.slice none 0 0, .bool false])))

def lenOf : Value → Nat
  | .string b => b.size
  | _ => 0
/-- Where the cutting of a text stands: tokens so far, and what is left. -/
def CutAt (w wr : World) (L : List UInt8) (v : Value) (acc : List Pl.Tok) (l : List UInt8) : Prop :=
  Below w.heap.size w wr ∧ wr.ownsRow w.heap.size 180 3 v acc.length (tokCells acc) ∧ l.length ≤ L.length ∧ acc.length + l.length ≤ L.length ∧ Pl.NoBad acc ∧ Pl.toks L = acc ++ Pl.toks l ∧ l.dropWhile Pl.isBlank = l

theorem news_at2 (w : World) (o : Obj) (C : List Value) (t : TypeId) : ∀ j u, C[j]? = some u → ((w.alloc o).alloc (.cells C.toArray t)).cell? ((⟨w.heap.size + 1, 0, none⟩ : Addr).add j) = some u := by
  have h := news_at (w.alloc o) C t
  rw [show (w.alloc o).heap.size = w.heap.size + 1 by simp] at h
  exact h
theorem own_below {w w' : World} {base : Nat} {e : TypeId} {size n : Nat} {v : Value} {xs : List Value} (hb : Below w.heap.size w w') (h : w.ownsRow base e size v n xs) : w'.ownsRow base e size v n xs := by
  obtain ⟨h1, h2⟩ := h
  refine ⟨h1, ?_⟩
  rcases h2 with h2 | ⟨g, cap, cur, hv, hg, hh, r⟩
  · exact .inl h2
  · exact .inr ⟨g, cap, cur, hv, hg, below_blk hb (lt_of_blk hh) hh, r⟩

set_option maxHeartbeats 1000000 in
set_option maxRecDepth 100000 in
theorem cut_any (X : LexLib) (s : ByteArray) (w : World) (hs : s.size ≤ 1048576) (hg : SpellAt w) (he : ErrAt w) :
    Calls Tryz.prog 61 #[.string s] w (PostC w s.data.toList) := by
  obtain ⟨i0, hi, hz0, hz1, hz2⟩ := info_parts Tryz.infoToken
  have HX := hide X
  have HG := hide hg
  have HE := hide he
  clear X hg he
  go_enter Tryz.func61, Tryz.ntmps61
  go_wp2_with fail
  refine (skip_any HX.out s w).mono ?_
  rintro e w1 ⟨rfl, hb⟩
  have HC : Hid (CutAt w w1 s.data.toList (.slice none 0 0) [] (s.data.toList.dropWhile Pl.isBlank)) :=
    ⟨hb, World.ownsRow_nil _ _ _ _, Pl.dw_len _ _, by have := Pl.dw_len Pl.isBlank s.data.toList; simpa using this, fun t ht => (by cases ht), by rw [Pl.toks_dw]; rfl, Pl.dw_dw _ _⟩
  generalize s.data.toList.dropWhile Pl.isBlank = l0 at *
  clear hb
  go_wp2_with fail
  go_loopw [4, 5] (fun v r wr => ∃ (acc : List Pl.Tok) (l : List UInt8), r = .string ⟨l.toArray⟩ ∧ Hid (CutAt w wr s.data.toList v acc l)) (fun _ r _ => lenOf r)
  case atStart => exact ⟨[], l0, rfl, HC⟩
  case round =>
    obtain ⟨acc, l, rfl, HI⟩ := hrel
    clear HC
    cases l with
    | nil =>
      obtain ⟨h1, h2, h3, h4, h5, h6, h7⟩ := HI.out
      rw [show Pl.toks [] = [] from rfl, List.append_nil] at h6
      obtain ⟨va, vn, vc, rfl⟩ := own_slice h2
      have HP : Hid (PostC w s.data.toList (.returned (.tuple #[.slice va vn vc, .bool true])) wr) :=
        ⟨h1, .inl ⟨by rw [h6]; exact h5, va, vn, vc, rfl, by rw [h6]; exact h2⟩⟩
      clear h1 h2 h3 h4 h5 h6 h7 HI
      go_wp2_with fail
      exact bodyPost_ret (v := .tuple #[.slice va vn vc, .bool true]) (by simp [results, Tryz.results61, go_sem]) rfl HP.out
    | cons c r =>
      obtain ⟨h1, h2, h3, h4, h5, h6, h7⟩ := HI.out
      have hl1 : (c :: r).length ≤ 1048576 := by
        have : s.data.toList.length ≤ 1048576 := by simpa using hs
        omega
      have HF := hide (first_any HX.out ⟨(c :: r).toArray⟩ wr (by simpa [ByteArray.size] using hl1) (by simp [ByteArray.size]) (HG.out.below h1) (HE.out.below h1))
      have hlook : Pl.look (c :: r) = Pl.headTok (c :: r) := by unfold Pl.look; rw [h7]
      have hk := Pl.look_k (c :: r)
      have hlen := Pl.headTok_len (c :: r) (by simp)
      have hdrop := Pl.headTok_drop (c :: r)
      have htk := Pl.toks_unfold (c :: r)
      have hk0 := Pl.headTok_k0 c r
      rw [hlook] at hk htk
      obtain ⟨va, vn, vc, rfl⟩ := own_slice h2
      change Hid (Calls Tryz.prog 94 #[.string ⟨(c :: r).toArray⟩] wr fun e w' => e = .returned (Pl.cut1 (Pl.headTok (c :: r)) (c :: r)) ∧ Below wr.heap.size wr w') at HF
      generalize hz : Pl.headTok (c :: r) = z at *
      obtain ⟨tk, rest⟩ := z
      simp only at hk hlen hdrop htk hk0
      have H6 := hide h6
      by_cases h99 : tk.k = 99
      · have HV : Hid (Pl.cut1 (tk, rest) (c :: r) = .tuple #[.agg #[.int .i64 0, .int .i64 0, .string ⟨#[]⟩], .int .i64 0]) := Pl.cut1_bad h99
        rw [HV.out] at HF
        have HP : Hid (∀ w2, Below wr.heap.size wr w2 → PostC w s.data.toList (.returned (.tuple #[.slice none 0 0, .bool false])) w2) := fun w2 hb2 => by
          refine ⟨h1.trans (hb2.mono h1.size), .inr ⟨?_, rfl⟩⟩
          intro hn
          rw [H6.out, htk, if_neg (by omega), if_pos h99] at hn
          exact hn Pl.bad (by simp) rfl
        clear h1 h2 h3 h4 h5 h6 h7 HI hlook hk hlen hdrop htk hz HV h99
        go_wp2_with fail
        refine (unhide HF).mono ?_
        rintro e w2 ⟨rfl, hb⟩
        have HB := hide hb
        clear hb
        go_wp2_with fail
        exact bodyPost_ret (v := .tuple #[.slice none 0 0, .bool false]) (by simp [results, Tryz.results61, go_sem]) rfl (HP.out _ (HB.out.alloc HB.out.size _))
      · have hn : 0 < (c :: r).length - rest.length := by omega
        have hnl : (c :: r).length - rest.length ≤ (c :: r).length := by omega
        have HV : Hid (Pl.cut1 (tk, rest) (c :: r) = .tuple #[.agg #[.int .i64 tk.k, .int .i64 tk.n, .string ⟨tk.s.toArray⟩], .int .i64 (((c :: r).length - rest.length : Nat) : Int)]) := Pl.cut1_ok h99
        rw [HV.out] at HF
        have hext : (⟨(c :: r).toArray⟩ : ByteArray).extract ((c :: r).length - rest.length) (c :: r).length = ⟨rest.toArray⟩ := by
          apply ByteArray.ext
          apply Array.toList_inj.1
          rw [ext_list]
          show List.drop _ (List.take (c :: r).length (c :: r)) = rest
          rw [List.take_length, hdrop]
        have HX2 := hide hext
        have HTK : Hid (Pl.toks (c :: r) = tk :: Pl.toks rest) := by
          unfold Hid
          rw [htk, if_neg hk0, if_neg h99]
        have H1 := hide h1
        have H4 := hide h4
        have H5 := hide h5
        have hlr : rest.length < (c :: r).length := hlen
        clear h1 h3 h4 h5 h6 h7 HI hlook hk hlen hdrop htk hz HV hext hk0
        generalize hN : (c :: r).length - rest.length = N at *
        have hnl' : N ≤ r.length + 1 := hnl
        have HX3 : Hid ((⟨(c :: r).toArray⟩ : ByteArray).extract N (r.length + 1) = ⟨rest.toArray⟩) := HX2
        have hlr' : rest.length ≤ r.length := by simp at hlr; omega
        clear hnl hN HX2
        go_wp2_with fail
        refine (unhide HF).mono ?_
        rintro e w2 ⟨rfl, hb⟩
        have HB := hide hb
        have hown2 : w2.ownsRow w.heap.size 180 3 (.slice va vn vc) acc.length (tokCells acc) := own_below hb h2
        have hzw : w.heap.size ≤ w2.heap.size := by have := H1.out.size; have := hb.size; omega
        clear hb h2
        go_wp2_with (at_builtin; refine wpList_append_own _ rfl (.tmp 21) (.tmp 23) 121 rfl w.heap.size 180 i0 _ 3 32 Tryz.underlying121 hi hz0 hz1 hz2 rfl (by decide) _ _ _ rfl ((hown2.alloc _).alloc _) ⟨w2.heap.size + 1, 0, none⟩ 1 1 [.int .i64 tk.k, .int .i64 tk.n, .string ⟨tk.s.toArray⟩] rfl rfl ?c1 ?c2 ?c3 ?c4 ?c5 ?_)
        case c1 => exact news_at2 w2 _ [.int .i64 tk.k, .int .i64 tk.n, .string ⟨tk.s.toArray⟩] 180
        case c2 => intro u hu; simp at hu; rcases hu with rfl | rfl | rfl <;> rfl
        case c3 => have := H4.out; unfold maxLen; simp at this; omega
        case c4 => have := H4.out; simp at this; omega
        case c5 => simp; omega
        intro v' w3 hown3 hg3 hnil
        have hg3' : Below w.heap.size w w3 := by
          have hlt : ∀ k, Value.ownBlock (.slice va vn vc) = some k → w.heap.size ≤ k := fun k e => (hown2.lt k e).1
          have h12 := ((H1.out.trans (HB.out.mono H1.out.size)).alloc hzw (.cells #[.int .i64 tk.k, .int .i64 tk.n, .string ⟨tk.s.toArray⟩] 180)).alloc (by simp; omega) (.cells #[.int .i64 tk.k, .int .i64 tk.n, .string ⟨tk.s.toArray⟩] 180)
          exact h12.trans ⟨hg3.os, hg3.tape, hg3.output, hg3.size, fun i hi => hg3.block i (by simp; omega) (fun e => by have := hlt _ e.symm; omega)⟩
        have HW3 := hide hg3'
        have HO3 := hide hown3
        clear hown2 hown3 hg3 hg3' hnil
        go_wp2_with fail
        refine (skip_any HX.out _ w3).mono ?_
        rw [HX3.out]
        rintro e w4 ⟨rfl, hb4⟩
        have HI4 : Hid (CutAt w w4 s.data.toList v' (acc ++ [tk]) (rest.dropWhile Pl.isBlank)) := by
          have hdl := Pl.dw_len Pl.isBlank rest
          have h4 := H4.out
          simp at h4
          refine ⟨HW3.out.trans (hb4.mono HW3.out.size), ?_, ?_, ?_, ?_, ?_, Pl.dw_dw _ _⟩
          · rw [tokCells_snoc, List.length_append]; exact own_below hb4 HO3.out
          · simp; omega
          · simp; omega
          · intro t ht
            rcases List.mem_append.1 ht with h | h
            · exact H5.out t h
            · simp at h; subst h; exact h99
          · rw [H6.out, HTK.out, Pl.toks_dw]; simp
        have hm : (rest.dropWhile Pl.isBlank).length < (c :: r).length := by have := Pl.dw_len Pl.isBlank rest; omega
        have HM := hide hm
        clear hm hb4 HO3 HW3 HTK H6 H4 H5 H1 HB HF
        go_wp2_with fail
        go_roundw
        case rel => exact ⟨_, _, rfl, HI4⟩
        case measure => exact HM.out
end Go.Proofs.YtojdpjpldokjmaaGreatDoor
/- The code's reader of tokens: fail, peek, take, token, need, name, number. -/
namespace Go.Proofs.YtojdpjpldokjmaaGreatDoor
open Go.RowKit Go.Deep
set_option linter.unusedSimpArgs false
set_option linter.unusedVariables false

/-- Tokens in memory, in another block than rb. -/
def TokAt (w : World) (rb : Nat) (v : Value) (T : List Pl.Tok) : Prop :=
  T.length ≤ 1048576 ∧ ((v = .slice none 0 0 ∧ T = []) ∨ ∃ g cap cur, v = .slice (some ⟨g, 0, none⟩) T.length cap ∧ g < rb ∧ w.heap[g]? = some (.cells cur 180) ∧ cur.toList.take (T.length * 3) = tokCells T)
theorem TokAt.keeps {w w' : World} {rb : Nat} {v : Value} {T : List Pl.Tok} (h : TokAt w rb v T) (hk : Keeps rb w w') : TokAt w' rb v T := by
  obtain ⟨h0, h⟩ := h
  refine ⟨h0, ?_⟩
  rcases h with h | ⟨g, cap, cur, h1, h2, h3, h4⟩
  · exact .inl h
  · exact .inr ⟨g, cap, cur, h1, h2, hk.blk (by omega) h3, h4⟩
theorem tokCells_at : ∀ (T : List Pl.Tok) (i : Nat) (h : i < T.length), (tokCells T)[3 * i]? = some (.int .i64 T[i].k) ∧ (tokCells T)[3 * i + 1]? = some (.int .i64 T[i].n) ∧ (tokCells T)[3 * i + 2]? = some (.string ⟨T[i].s.toArray⟩)
  | [], i, h => absurd h (by simp)
  | t :: T, 0, _ => ⟨rfl, rfl, rfl⟩
  | t :: T, i + 1, h => by
    have ih := tokCells_at T i (by simpa using h)
    have e : tokCells (t :: T) = [.int .i64 t.k, .int .i64 t.n, .string ⟨t.s.toArray⟩] ++ tokCells T := rfl
    rw [e]
    refine ⟨?_, ?_, ?_⟩
    · rw [List.getElem?_append_right (by simp; omega)]; simpa [show 3 * (i + 1) - 3 = 3 * i by omega] using ih.1
    · rw [List.getElem?_append_right (by simp; omega)]; simpa [show 3 * (i + 1) + 1 - 3 = 3 * i + 1 by omega] using ih.2.1
    · rw [List.getElem?_append_right (by simp; omega)]; simpa [show 3 * (i + 1) + 2 - 3 = 3 * i + 2 by omega] using ih.2.2
theorem TokAt.cells {w : World} {rb : Nat} {v : Value} {T : List Pl.Tok} (h : TokAt w rb v T) {i : Nat} (hi : i < T.length) : ∃ g cap, v = .slice (some ⟨g, 0, none⟩) T.length cap ∧ g < rb ∧ g < w.heap.size ∧ w.cell? ⟨g, 3 * i, none⟩ = some (.int .i64 T[i].k) ∧ w.cell? ⟨g, 3 * i + 1, none⟩ = some (.int .i64 T[i].n) ∧ w.cell? ⟨g, 3 * i + 2, none⟩ = some (.string ⟨T[i].s.toArray⟩) := by
  rcases h.2 with ⟨_, h⟩ | ⟨g, cap, cur, h1, h2, h3, h4⟩
  · subst h; simp at hi
  · have hc := tokCells_at T i hi
    rw [← h4] at hc
    have q : ∀ j, j < T.length * 3 → w.cell? ⟨g, j, none⟩ = (cur.toList.take (T.length * 3))[j]? := fun j hj => by
      rw [blk_cell h3, List.getElem?_take, if_pos hj]; simp
    refine ⟨g, cap, h1, h2, lt_of_blk h3, ?_, ?_, ?_⟩
    · rw [q _ (by omega)]; exact hc.1
    · rw [q _ (by omega)]; exact hc.2.1
    · rw [q _ (by omega)]; exact hc.2.2

/-- The code's reader, in the block rb: what is left of its tokens, how deep, whether something is wrong. -/
def RC (w : World) (rb : Nat) (T ts : List Pl.Tok) (d : Nat) (b : Bool) : Prop :=
  ∃ (v : Value) (p : Nat), w.heap[rb]? = some (.cells #[v, .int .i64 p, .int .i64 d, .bool b] 126) ∧ p ≤ T.length ∧ T.drop p = ts ∧ (b = true → ts = []) ∧ TokAt w rb v T
theorem RC.lt {w : World} {rb : Nat} {T ts : List Pl.Tok} {d : Nat} {b : Bool} (h : RC w rb T ts d b) : rb < w.heap.size := by
  obtain ⟨v, p, h1, _⟩ := h; exact lt_of_blk h1
theorem TokAt.slice {w : World} {rb : Nat} {v : Value} {T : List Pl.Tok} (h : TokAt w rb v T) : ∃ a c, v = .slice a T.length c := by
  rcases h.2 with ⟨rfl, rfl⟩ | ⟨g, cap, cur, h1, _⟩
  · exact ⟨none, 0, rfl⟩
  · exact ⟨_, _, h1⟩

set_option maxHeartbeats 400000 in
set_option maxRecDepth 100000 in
theorem failC (rb : Nat) (T ts : List Pl.Tok) (d : Nat) (b : Bool) (w : World) (hR : RC w rb T ts d b) :
    Calls Tryz.prog 100 #[.pointer (some ⟨rb, 0, none⟩)] w fun e w' => e = .returned (.tuple #[]) ∧ RC w' rb T [] d true ∧ Keeps rb w w' := by
  obtain ⟨v, p, h1, h2, h3, h4, h5⟩ := hR
  obtain ⟨a, c, rfl⟩ := h5.slice
  have hz := lt_of_blk h1
  have c0 := blk_cell h1 0
  have c1 := blk_cell h1 1
  have c3 := blk_cell h1 3
  have cf := blk_frozen h1
  simp at c0 c1 c3
  have H1 := hide h1
  have H5 := hide h5
  clear h1 h5 h4 h3
  go_enter Tryz.func100, Tryz.ntmps100
  go_wp2_with fail
  refine bodyPost_end (v := .tuple #[]) (by simp [results, Tryz.results100, go_sem]) rfl ?_
  refine ⟨rfl, ⟨.slice a T.length c, T.length, ?_, Nat.le_refl _, by simp, fun _ => rfl, H5.out.keeps (((Keeps.refl _ _).set _ _).set _ _)⟩, ((Keeps.refl _ _).set _ _).set _ _⟩
  simpa using blk_set (blk_set H1.out 3 (.bool true)) 1 (.int .i64 T.length)

theorem hd_drop (T : List Pl.Tok) (p : Nat) (h : p < T.length) : Pl.hd (T.drop p) = T[p] ∧ (T.drop p).tail = T.drop (p + 1) := by
  rw [List.drop_eq_getElem_cons h]; exact ⟨rfl, rfl⟩
theorem drop_end {T : List Pl.Tok} {p : Nat} (h : ¬ p < T.length) : T.drop p = [] := List.drop_eq_nil_of_le (by omega)

theorem RC.drew {w : World} {rb : Nat} {T ts : List Pl.Tok} {d : Nat} {b : Bool} (h : RC w rb T ts d b) : RC w.drew rb T ts d b := h
theorem RC.keeps {w w' : World} {rb : Nat} {T ts : List Pl.Tok} {d : Nat} {b : Bool} (h : RC w rb T ts d b) (hk : Keeps rb w w') (hb : w'.heap[rb]? = w.heap[rb]?) : RC w' rb T ts d b := by
  obtain ⟨v, p, h1, h2, h3, h4, h5⟩ := h
  exact ⟨v, p, hb.trans h1, h2, h3, h4, h5.keeps hk⟩
theorem RC.alloc {w : World} {rb : Nat} {T ts : List Pl.Tok} {d : Nat} {b : Bool} (h : RC w rb T ts d b) (o : Obj) : RC (w.alloc o) rb T ts d b :=
  h.keeps ((Keeps.refl _ _).alloc _) (Below.heap_alloc _ _ _ h.lt)

set_option maxHeartbeats 400000 in
set_option maxRecDepth 100000 in
theorem peekC (rb : Nat) (T ts : List Pl.Tok) (d : Nat) (b : Bool) (w : World) (hR : RC w rb T ts d b) :
    Calls Tryz.prog 64 #[.pointer (some ⟨rb, 0, none⟩)] w fun e w' => e = .returned (.int .i64 (Pl.hd ts).k) ∧ RC w' rb T ts d b ∧ Keeps rb w w' := by
  have HR := hide hR
  obtain ⟨v, p, h1, h2, h3, h4, h5⟩ := hR
  have hlen := h5.1
  have hz := lt_of_blk h1
  have c0 := blk_cell h1 0
  have c1 := blk_cell h1 1
  have cf := blk_frozen h1
  simp at c0 c1
  by_cases hlt : p < T.length
  · obtain ⟨g, cap, rfl, hne, hg, e0, e1, e2⟩ := h5.cells hlt
    have HK : Hid (Pl.hd ts = T[p]) := by unfold Hid; rw [← h3]; exact (hd_drop T p hlt).1
    rw [show 3 * p = p * 3 by omega] at e0
    have hne' : ((p : Int) == (T.length : Int)) = false := by simp; omega
    clear h1 h3 h4 h5 e1 e2
    go_enter Tryz.func64, Tryz.ntmps64
    go_wp2_with fail
    go_region
    go_wp2_with fail
    go_region
    go_wp2_with fail
    go_ret
    exact ⟨ret_int (by rw [HK.out]), HR.out.drew.drew, (Keeps.refl _ _).drew.drew⟩
  · obtain ⟨a, c, rfl⟩ := h5.slice
    have HK : Hid (Pl.hd ts = Pl.fin) := by unfold Hid; rw [← h3, drop_end hlt]; rfl
    have hpe : p = T.length := by omega
    subst hpe
    clear h1 h3 h4 h5
    go_enter Tryz.func64, Tryz.ntmps64
    go_wp2_with fail
    go_region
    go_wp2_with fail
    go_ret
    exact ⟨ret_int (by rw [HK.out]; rfl), HR.out.drew, (Keeps.refl _ _).drew⟩

/-- Is the next token of this kind? What is left behind it, if so. -/
def hk (ts : List Pl.Tok) (k : Nat) : Bool := (Pl.hd ts).k == k
def tl (ts : List Pl.Tok) (k : Nat) : List Pl.Tok := if hk ts k = true then ts.tail else ts
theorem hk_ne {ts : List Pl.Tok} {k : Nat} (hk0 : k ≠ 0) (h : hk ts k = true) : ts ≠ [] := by
  rintro rfl
  unfold hk at h
  simp [Pl.hd, Pl.fin] at h
  omega
theorem RC.next {w : World} {rb : Nat} {T ts : List Pl.Tok} {d : Nat} {b : Bool} (h : RC w rb T ts d b) (hne : ts ≠ []) : ∃ p : Nat, w.cell? ⟨rb, 1, none⟩ = some (.int .i64 p) ∧ (∀ o, w.frozen? ⟨rb, o, none⟩ = false) ∧ p < 1048576 ∧ b = false ∧ RC (w.setCell ⟨rb, 1, none⟩ (.int .i64 ((p : Int) + 1))) rb T ts.tail d b := by
  obtain ⟨v, p, h1, h2, h3, h4, h5⟩ := h
  have hlt : p < T.length := by
    rcases Nat.lt_or_ge p T.length with h | h
    · exact h
    · rw [drop_end (by omega)] at h3; exact absurd h3.symm hne
  have hb : b = false := by cases b; rfl; exact absurd (h4 rfl) hne
  refine ⟨p, by simpa using blk_cell h1 1, blk_frozen h1, by have := h5.1; omega, hb, v, p + 1, ?_, by omega, ?_, fun h => (by rw [hb] at h; cases h), h5.keeps ((Keeps.refl _ _).set _ _)⟩
  · simpa using blk_set h1 1 (.int .i64 ((p : Int) + 1))
  · rw [← h3]; exact (hd_drop T p hlt).2.symm

set_option maxHeartbeats 400000 in
set_option maxRecDepth 100000 in
theorem takeC (k : Nat) (hk0 : k ≠ 0) (rb : Nat) (T ts : List Pl.Tok) (d : Nat) (b : Bool) (w : World) (hR : RC w rb T ts d b) :
    Calls Tryz.prog 63 #[.pointer (some ⟨rb, 0, none⟩), .int .i64 k] w fun e w' => e = .returned (.bool (hk ts k)) ∧ RC w' rb T (tl ts k) d b ∧ Keeps rb w w' := by
  have HP := hide (peekC rb T ts d b w hR)
  have hz := hR.lt
  clear hR
  cases hx : hk ts k
  · have HT : Hid (tl ts k = ts) := by unfold tl; rw [hx]; rfl
    have hne : (((Pl.hd ts).k : Int) != (k : Int)) = true := by unfold hk at hx; simp at hx ⊢; omega
    go_enter Tryz.func63, Tryz.ntmps63
    go_wp2_with fail
    refine (unhide HP).mono ?_
    rintro e w1 ⟨rfl, hr, hk1⟩
    go_wp2_with fail
    go_ret
    exact ⟨rfl, by rw [HT.out]; exact hr, hk1⟩
  · have HT : Hid (tl ts k = ts.tail) := by unfold tl; rw [hx]; rfl
    have hne : (((Pl.hd ts).k : Int) != (k : Int)) = false := by unfold hk at hx; simp at hx ⊢; omega
    have HNE := hide (hk_ne hk0 hx)
    go_enter Tryz.func63, Tryz.ntmps63
    go_wp2_with fail
    refine (unhide HP).mono ?_
    rintro e w1 ⟨rfl, hr, hk1⟩
    obtain ⟨p, c1, cf, hp, rfl, hr2⟩ := hr.next HNE.out
    have HR2 := hide hr2
    have hz1 := hr.lt
    clear hr hr2
    go_wp2_with fail
    go_ret
    exact ⟨rfl, by rw [HT.out]; exact HR2.out, hk1.set _ _⟩

/-- What a token that must stand here is, and what is left. -/
def tokR (ts : List Pl.Tok) (k : Nat) : Pl.Tok := if hk ts k = true then Pl.hd ts else ⟨0, 0, []⟩
def nx (ts : List Pl.Tok) (k : Nat) : List Pl.Tok := if hk ts k = true then ts.tail else []
def bx (ts : List Pl.Tok) (k : Nat) (b : Bool) : Bool := b || !hk ts k
theorem nx_yes {ts : List Pl.Tok} {k : Nat} {b : Bool} (h : hk ts k = true) : nx ts k = ts.tail ∧ bx ts k b = b ∧ tokR ts k = Pl.hd ts ∧ tl ts k = ts.tail := by
  unfold nx bx tokR tl; simp [h]
theorem nx_no {ts : List Pl.Tok} {k : Nat} {b : Bool} (h : hk ts k = false) : nx ts k = [] ∧ bx ts k b = true ∧ tokR ts k = ⟨0, 0, []⟩ ∧ tl ts k = ts := by
  unfold nx bx tokR tl; simp [h]

theorem RC.setNew {w w0 : World} {rb : Nat} {T ts : List Pl.Tok} {d : Nat} {b : Bool} (h : RC w rb T ts d b) (hz : rb < w0.heap.size) (o : Nat) (x : Value) : RC (w.setCell ⟨w0.heap.size, o, none⟩ x) rb T ts d b := by
  obtain ⟨v, p, h1, h2, h3, h4, h5, h6⟩ := h
  refine ⟨v, p, blk_set_ne h1 (by omega) _ _, h2, h3, h4, h5, ?_⟩
  rcases h6 with h6 | ⟨g, cap, cur, k1, k2, k3, k4⟩
  · exact .inl h6
  · exact .inr ⟨g, cap, cur, k1, k2, blk_set_ne k3 (by omega) _ _, k4⟩
theorem RC.drop {w : World} {rb : Nat} {T ts : List Pl.Tok} {d : Nat} {b : Bool} (h : RC w rb T ts d b) : T.drop (T.length - ts.length) = ts ∧ ts.length ≤ T.length := by
  obtain ⟨v, p, h1, h2, h3, h4, h5⟩ := h
  subst h3
  simp only [List.length_drop]
  rw [show T.length - (T.length - p) = p by omega]
  exact ⟨rfl, by omega⟩
theorem RC.last {w : World} {rb : Nat} {T ts : List Pl.Tok} {d : Nat} {b : Bool} (h : RC w rb T ts.tail d b) (hd : T.drop (T.length - ts.length) = ts ∧ ts.length ≤ T.length) (hne : ts ≠ []) :
    ∃ g cap q : Nat, w.cell? ⟨rb, 0, none⟩ = some (.slice (some ⟨g, 0, none⟩) T.length cap) ∧ w.cell? ⟨rb, 1, none⟩ = some (.int .i64 ((q : Int) + 1)) ∧ (∀ o, w.frozen? ⟨rb, o, none⟩ = false) ∧ q < T.length ∧ T.length ≤ 1048576 ∧ True ∧ g < rb ∧ g < w.heap.size ∧
      w.cell? ⟨g, q * 3, none⟩ = some (.int .i64 (Pl.hd ts).k) ∧ w.cell? ⟨g, q * 3 + 1, none⟩ = some (.int .i64 (Pl.hd ts).n) ∧ w.cell? ⟨g, q * 3 + 2, none⟩ = some (.string ⟨(Pl.hd ts).s.toArray⟩) := by
  obtain ⟨v, p, h1, h2, h3, h4, h5⟩ := h
  have hts : 0 < ts.length := by cases ts with
    | nil => exact absurd rfl hne
    | cons a l => simp
  have hlen : T.length - p = ts.length - 1 := by have := congrArg List.length h3; simpa using this
  have hq : T.length - ts.length < T.length := by omega
  have hp : p = (T.length - ts.length) + 1 := by omega
  obtain ⟨g, cap, rfl, hgr, hgz, e0, e1, e2⟩ := h5.cells hq
  have hhd : T[T.length - ts.length] = Pl.hd ts := by
    have := (hd_drop T _ hq).1; rw [hd.1] at this; exact this.symm
  rw [hhd] at e0 e1 e2
  rw [show 3 * (T.length - ts.length) = (T.length - ts.length) * 3 by omega] at e0 e1 e2
  refine ⟨g, cap, T.length - ts.length, by simpa using blk_cell h1 0, ?_, blk_frozen h1, hq, h5.1, trivial, hgr, hgz, e0, e1, e2⟩
  have := blk_cell h1 1
  simp at this
  rw [this, hp]; rfl

set_option maxHeartbeats 400000 in
set_option maxRecDepth 100000 in
theorem tokenC (k : Nat) (hk0 : k ≠ 0) (rb : Nat) (T ts : List Pl.Tok) (d : Nat) (b : Bool) (w : World) (hR : RC w rb T ts d b) :
    Calls Tryz.prog 208 #[.pointer (some ⟨rb, 0, none⟩), .int .i64 k] w fun e w' => e = .returned (Pl.cTok (tokR ts k)) ∧ RC w' rb T (nx ts k) d (bx ts k b) ∧ Keeps rb w w' := by
  have HP := hide (takeC k hk0 rb T ts d b)
  have HR := hide hR
  have hz := hR.lt
  clear hR
  cases hx : hk ts k
  · obtain ⟨e1, e2, e3, e4⟩ := nx_no (b := b) hx
    rw [hx, e4] at HP
    rw [e1, e2, e3]
    clear e1 e2 e3 e4
    go_enter Tryz.func208, Tryz.ntmps208
    go_wp2_with fail
    refine (unhide HP _ (HR.out.alloc _)).mono ?_
    rintro e w1 ⟨rfl, hr1, hk1⟩
    have HR1 := hide hr1
    have HK1 := hide hk1
    clear hr1 hk1
    go_wp2_with fail
    refine (failC rb T ts d b w1 HR1.out).mono ?_
    rintro e w2 ⟨rfl, hr2, hk2⟩
    have hbx := (HK1.out.trans hk2).blk (by omega) (blk_new w (.cells #[.int .i64 0, .int .i64 0, .string { data := #[] }] 180))
    have b0 := blk_cell hbx 0
    have b1 := blk_cell hbx 1
    have b2 := blk_cell hbx 2
    have bf := blk_frozen hbx
    have hzb := lt_of_blk hbx
    simp at b0 b1 b2
    have HR2 := hide hr2
    have HK2 := hide (((Keeps.refl rb w).alloc (.cells #[.int .i64 0, .int .i64 0, .string { data := #[] }] 180)).trans (HK1.out.trans hk2))
    clear hr2 hk2 hbx
    go_wp2_with fail
    refine bodyPost_ret (v := .agg #[.int .i64 0, .int .i64 0, .string ⟨#[]⟩]) ?_ rfl ⟨rfl, ((HR2.out.setNew hz _ _).setNew hz _ _).setNew hz _ _, ((HK2.out.setNew (Nat.le_refl _) _).setNew (Nat.le_refl _) _).setNew (Nat.le_refl _) _⟩
    simp [results, Tryz.results208, go_sem, b0, b1, b2]
  · obtain ⟨e1, e2, e3, e4⟩ := nx_yes (b := b) hx
    rw [hx, e4] at HP
    rw [e1, e2, e3]
    have HNE := hide (hk_ne hk0 hx)
    have HD := hide HR.out.drop
    clear e1 e2 e3 e4
    go_enter Tryz.func208, Tryz.ntmps208
    go_wp2_with fail
    refine (unhide HP _ (HR.out.alloc _)).mono ?_
    rintro e w1 ⟨rfl, hr1, hk1⟩
    obtain ⟨g, cap, q, c0, c1, cf, hq, hqT, hT, hgr, hgz, t0, t1, t2⟩ := hr1.last HD.out HNE.out
    have hbx := hk1.blk (by omega) (blk_new w (.cells #[.int .i64 0, .int .i64 0, .string { data := #[] }] 180))
    have b0 := blk_cell hbx 0
    have b1 := blk_cell hbx 1
    have b2 := blk_cell hbx 2
    have bf := blk_frozen hbx
    have hzb := lt_of_blk hbx
    have hz1 := hr1.lt
    simp at b0 b1 b2
    have HR1 := hide hr1
    have HK1 := hide (((Keeps.refl rb w).alloc (.cells #[.int .i64 0, .int .i64 0, .string { data := #[] }] 180)).trans hk1)
    clear hr1 hk1 hbx
    generalize hht : Pl.hd ts = tk at *
    have HHT := hide hht
    clear hht
    go_wp2_with fail
    go_region
    go_wp2_with fail
    refine bodyPost_ret (v := .agg #[.int .i64 tk.k, .int .i64 tk.n, .string ⟨tk.s.toArray⟩]) ?_ rfl ⟨?_, ?_, ?_⟩
    · simp [results, Tryz.results208, go_sem, b0, b1, b2]
    · rw [HHT.out]; rfl
    · exact (((HR1.out.setNew hz _ _).setNew hz _ _).setNew hz _ _).drew
    · exact (((HK1.out.setNew (Nat.le_refl _) _).setNew (Nat.le_refl _) _).setNew (Nat.le_refl _) _).drew

theorem fieldTok1 (a b c : Value) (w : World) : (Instr.field 180 (.agg #[a, b, c]) 1).run Tryz.prog w = .ok b w := by simp [Instr.field, go_sem, asAgg]
theorem fieldTok2 (a b c : Value) (w : World) : (Instr.field 180 (.agg #[a, b, c]) 2).run Tryz.prog w = .ok c w := by simp [Instr.field, go_sem, asAgg]
set_option maxHeartbeats 400000 in
set_option maxRecDepth 100000 in
theorem nameC (rb : Nat) (T ts : List Pl.Tok) (d : Nat) (b : Bool) (w : World) (hR : RC w rb T ts d b) :
    Calls Tryz.prog 150 #[.pointer (some ⟨rb, 0, none⟩)] w fun e w' => e = .returned (.string ⟨(tokR ts 1).s.toArray⟩) ∧ RC w' rb T (nx ts 1) d (bx ts 1 b) ∧ Keeps rb w w' := by
  have HC := hide (tokenC 1 (by decide) rb T ts d b w hR)
  clear hR
  have hf := fieldTok2
  go_enter Tryz.func150, Tryz.ntmps150
  go_wp2_with fail
  refine (unhide HC).mono ?_
  rintro e w1 ⟨rfl, hr, hk1⟩
  rw [Pl.cTok_eq]
  go_wp2_with fail
  go_ret
  exact ⟨rfl, hr, hk1⟩
set_option maxHeartbeats 400000 in
set_option maxRecDepth 100000 in
theorem numberC (rb : Nat) (T ts : List Pl.Tok) (d : Nat) (b : Bool) (w : World) (hR : RC w rb T ts d b) :
    Calls Tryz.prog 215 #[.pointer (some ⟨rb, 0, none⟩)] w fun e w' => e = .returned (.int .i64 (tokR ts 2).n) ∧ RC w' rb T (nx ts 2) d (bx ts 2 b) ∧ Keeps rb w w' := by
  have HC := hide (tokenC 2 (by decide) rb T ts d b w hR)
  clear hR
  have hf := fieldTok1
  go_enter Tryz.func215, Tryz.ntmps215
  go_wp2_with fail
  refine (unhide HC).mono ?_
  rintro e w1 ⟨rfl, hr, hk1⟩
  rw [Pl.cTok_eq]
  go_wp2_with fail
  go_ret
  exact ⟨rfl, hr, hk1⟩

/-- Tokens that must stand here, in turn. -/
def needs : List Nat → List Pl.Tok → Option (List Pl.Tok)
  | [], ts => some ts
  | k :: ks, ts => if hk ts k = true then needs ks ts.tail else none
def RCo (w : World) (rb : Nat) (T : List Pl.Tok) (o : Option (List Pl.Tok)) (d : Nat) (b : Bool) : Prop := match o with
  | some r => RC w rb T r d b
  | none => RC w rb T [] d true
/-- Kinds in memory. -/
def kindsAt (w : World) (lb : Nat) (ks : List Nat) : Prop := lb < w.heap.size ∧ ∀ i (h : i < ks.length), w.cell? ⟨lb, i, none⟩ = some (.int .i64 ks[i])
/-- What is left of a list of kinds, tokens gone over. -/
def needAt (ks : List Nat) (i : Nat) (o : Option (List Pl.Tok)) (ts : List Pl.Tok) (fl : Bool) : Prop :=
  (fl = false ∧ needs (ks.drop i) ts = o) ∨ (fl = true ∧ ts = [] ∧ o = none)

set_option maxHeartbeats 400000 in
set_option maxRecDepth 100000 in
theorem needC (ks : List Nat) (n : Nat) (hn : ks.length = n) (h0 : ∀ k ∈ ks, k ≠ 0) (hn1 : n ≤ 100) (lb cp : Nat) (rb : Nat) (T ts : List Pl.Tok) (d : Nat) (b : Bool) (w : World) (hR : RC w rb T ts d b) (hL : kindsAt w lb ks) (hne : lb ≠ rb) :
    Calls Tryz.prog 149 #[.pointer (some ⟨rb, 0, none⟩), .slice (some ⟨lb, 0, none⟩) n cp] w fun e w' => e = .returned (.tuple #[]) ∧ RCo w' rb T (needs ks ts) d b ∧ Keeps rb w w' := by
  subst hn
  have HR := hide hR
  have HL := hide hL
  have H0 := hide h0
  clear hR hL h0
  go_enter Tryz.func149, Tryz.ntmps149
  go_wp2_with fail
  go_loopw [8] (fun a wr => ∃ i : Nat, i ≤ ks.length ∧ a = .int .i64 i ∧ Hid (∃ ts' fl, RC wr rb T ts' d (b || fl) ∧ needAt ks i (needs ks ts) ts' fl) ∧ Hid (Keeps rb w wr)) (fun a _ => ks.length - (intOf a).toNat)
  case atStart => exact ⟨0, Nat.zero_le _, rfl, ⟨ts, false, by simpa using HR.out, .inl ⟨rfl, rfl⟩⟩, Keeps.refl _ _⟩
  case round =>
    obtain ⟨i, hi, rfl, HS, HK⟩ := hrel
    by_cases hlt : i < ks.length
    · have hc : wr.cell? ⟨lb, i, none⟩ = some (.int .i64 ks[i]) := by rw [HK.out.cell HL.out.1 hne]; exact HL.out.2 i hlt
      obtain ⟨ts', fl, hrc, hna⟩ := HS.out
      have HC := hide (tokenC ks[i] (H0.out _ (List.getElem_mem hlt)) rb T ts' d (b || fl) wr hrc)
      have HN : Hid (∀ w1, RC w1 rb T (nx ts' ks[i]) d (bx ts' ks[i] (b || fl)) → ∃ ts2 fl2, RC w1 rb T ts2 d (b || fl2) ∧ needAt ks (i + 1) (needs ks ts) ts2 fl2) := by
        intro w1 h1
        cases hx : hk ts' ks[i]
        · obtain ⟨e1, e2, _, _⟩ := nx_no (b := b || fl) hx
          rw [e1, e2] at h1
          refine ⟨[], true, by simpa using h1, .inr ⟨rfl, rfl, ?_⟩⟩
          rcases hna with ⟨_, h2⟩ | ⟨_, _, h2⟩
          · rw [← h2, List.drop_eq_getElem_cons hlt, needs, hx]; rfl
          · exact h2
        · obtain ⟨e1, e2, _, _⟩ := nx_yes (b := b || fl) hx
          rw [e1, e2] at h1
          rcases hna with ⟨rfl, h2⟩ | ⟨_, h2, _⟩
          · refine ⟨ts'.tail, false, h1, .inl ⟨rfl, ?_⟩⟩
            rw [← h2, List.drop_eq_getElem_cons hlt, needs, hx]; rfl
          · subst h2; exact absurd rfl (hk_ne (H0.out _ (List.getElem_mem hlt)) hx)
      clear hrc hna
      generalize ks[i] = kk at *
      go_wp2_with fail
      refine (unhide HC).mono ?_
      rintro e w1 ⟨rfl, hr, hk1⟩
      have HR1 := hide (HN.out w1 hr)
      have HK1 := hide (HK.out.trans hk1)
      clear hr hk1 HC HN HS
      go_wp2_with fail
      go_roundw
      case rel => exact ⟨i + 1, by omega, by go_num, HR1, HK1⟩
      case measure => simp [intOf]; omega
    · have HE : Hid (RCo wr rb T (needs ks ts) d b) := by
        obtain ⟨ts', fl, hrc, hna⟩ := HS.out
        unfold Hid
        rcases hna with ⟨rfl, h2⟩ | ⟨rfl, rfl, h2⟩
        · rw [List.drop_eq_nil_of_le (by omega)] at h2
          rw [← h2]
          simpa [needs, RCo] using hrc
        · rw [h2]
          simpa [RCo] using hrc
      go_wp2_with fail
      exact bodyPost_end (v := .tuple #[]) (by simp [results, Tryz.results149, go_sem]) rfl ⟨rfl, HE.out, HK.out⟩
end Go.Proofs.YtojdpjpldokjmaaGreatDoor
/- The code's values in memory; literals, names. -/
namespace Go.Proofs.YtojdpjpldokjmaaGreatDoor
open Go.RowKit Go.Deep
set_option linter.unusedSimpArgs false
set_option linter.unusedVariables false

/-- A value of the code's in memory, in blocks behind rb. -/
def CTree (w : World) (rb : Nat) : Pl.T → Value → Prop
  | .nil, v => v = .pointer none
  | .node _ _ a l r, v => ∃ (n : Nat) (vl vr : Value), v = .pointer (some ⟨n, 0, none⟩) ∧ rb < n ∧
      w.heap[n]? = some (.cells #[.int .i64 a.op, .int .i64 a.kind, .int .i64 a.n, .string ⟨a.s.toArray⟩, .string ⟨a.src.toArray⟩, .string ⟨a.name.toArray⟩, vl, vr] 269) ∧ CTree w rb l vl ∧ CTree w rb r vr
theorem CTree.keeps {w w' : World} {rb : Nat} (hk : Keeps rb w w') : ∀ {t : Pl.T} {v : Value}, CTree w rb t v → CTree w' rb t v
  | .nil, _, h => h
  | .node _ _ a l r, v, ⟨n, vl, vr, hv, hn, hb, hl, hr⟩ => ⟨n, vl, vr, hv, hn, hk.blk (by omega) hb, CTree.keeps hk hl, CTree.keeps hk hr⟩
theorem CTree.lit {w : World} {rb n : Nat} (hn : rb < n) (kind m : Int) (s : ByteArray) (l : List UInt8) (hs : s = ⟨l.toArray⟩) (hb : w.heap[n]? = some (.cells #[.int .i64 0, .int .i64 kind, .int .i64 m, .string s, .string { data := #[] }, .string { data := #[] }, .pointer none, .pointer none] 269)) :
    CTree w rb (Pl.tLit kind m l) (.pointer (some ⟨n, 0, none⟩)) := by subst hs; exact ⟨n, _, _, rfl, hn, hb, rfl, rfl⟩
theorem CTree.name {w : World} {rb n : Nat} (hn : rb < n) (src nm : List UInt8) (hb : w.heap[n]? = some (.cells #[.int .i64 1, .int .i64 0, .int .i64 0, .string { data := #[] }, .string ⟨src.toArray⟩, .string ⟨nm.toArray⟩, .pointer none, .pointer none] 269)) :
    CTree w rb (Pl.tName src nm) (.pointer (some ⟨n, 0, none⟩)) := ⟨n, _, _, rfl, hn, hb, rfl, rfl⟩
theorem CTree.one {w : World} {rb n : Nat} (hn : rb < n) (op : Nat) (x : Pl.T) (vx : Value) (hb : w.heap[n]? = some (.cells #[.int .i64 op, .int .i64 0, .int .i64 0, .string { data := #[] }, .string { data := #[] }, .string { data := #[] }, vx, .pointer none] 269)) (hx : CTree w rb x vx) :
    CTree w rb (Pl.tOne op x) (.pointer (some ⟨n, 0, none⟩)) := ⟨n, _, _, rfl, hn, hb, hx, rfl⟩
theorem CTree.two {w : World} {rb n : Nat} (hn : rb < n) (op : Nat) (x y : Pl.T) (vx vy : Value) (hb : w.heap[n]? = some (.cells #[.int .i64 op, .int .i64 0, .int .i64 0, .string { data := #[] }, .string { data := #[] }, .string { data := #[] }, vx, vy] 269)) (hx : CTree w rb x vx) (hy : CTree w rb y vy) :
    CTree w rb (Pl.tTwo op x y) (.pointer (some ⟨n, 0, none⟩)) := ⟨n, _, _, rfl, hn, hb, hx, hy⟩

/-- What a reading of a value leaves. -/
def PostR (w : World) (rb : Nat) (T : List Pl.Tok) (d : Nat) (b : Bool) (spec : Option (Pl.T × List Pl.Tok)) (e : Ending) (w' : World) : Prop :=
  Keeps rb w w' ∧ ∃ v : Option Addr, e = .returned (.pointer v) ∧ match spec with
    | some (x, r) => CTree w' rb x (.pointer v) ∧ RC w' rb T r d b
    | none => RC w' rb T [] d true
theorem PostR.some_ {w w' : World} {rb : Nat} {T : List Pl.Tok} {d : Nat} {b : Bool} {x : Pl.T} {r : List Pl.Tok} {spec : Option (Pl.T × List Pl.Tok)} {v : Option Addr} (hs : spec = some (x, r)) (hk : Keeps rb w w') (ht : CTree w' rb x (.pointer v)) (hr : RC w' rb T r d b) :
    PostR w rb T d b spec (.returned (.pointer v)) w' := by subst hs; exact ⟨hk, v, rfl, ht, hr⟩
theorem PostR.none_ {w w' : World} {rb : Nat} {T : List Pl.Tok} {d : Nat} {b : Bool} {spec : Option (Pl.T × List Pl.Tok)} {v : Option Addr} (hs : spec = none) (hk : Keeps rb w w') (hr : RC w' rb T [] d true) :
    PostR w rb T d b spec (.returned (.pointer v)) w' := by subst hs; exact ⟨hk, v, rfl, hr⟩
def CQ (f : FuncId) (d : Nat) (p : Pl.P) : Prop := ∀ rb T ts b w, RC w rb T ts d b → Calls Tryz.prog f #[.pointer (some ⟨rb, 0, none⟩)] w (PostR w rb T d b (p ts))

set_option maxHeartbeats 400000 in
set_option maxRecDepth 100000 in
theorem literalC (kind m : Int) (s : ByteArray) (w : World) :
    Calls Tryz.prog 336 #[.agg #[.int .i64 kind, .int .i64 m, .string s]] w fun e w' => ∃ n, e = .returned (.pointer (some ⟨n, 0, none⟩)) ∧ w.heap.size ≤ n ∧ w'.heap[n]? = some (.cells #[.int .i64 0, .int .i64 kind, .int .i64 m, .string s, .string { data := #[] }, .string { data := #[] }, .pointer none, .pointer none] 269) ∧ Below w.heap.size w w' := by
  go_enter Tryz.func336, Tryz.ntmps336
  go_wp2_with fail
  go_ret
  refine ⟨_, rfl, ?_, blk_new' _ _ _ (by simp), ?_⟩
  · simp
  · exact ((Below.refl _ _).alloc (Nat.le_refl _) _).alloc (by simp) _

theorem nxn {ts : List Pl.Tok} {k : Nat} (h : (Pl.hd ts).k = k) : hk ts k = true := by unfold hk; simp [h]
theorem nxf {ts : List Pl.Tok} {k : Nat} (h : (Pl.hd ts).k ≠ k) : hk ts k = false := by unfold hk; simp [h]
namespace Pl
/-- A column's name, with or without its source. -/
def pCol : P := fun ts => if (hd ts.tail).k = 10 then (if (hd ts.tail.tail).k = 1 then some (tName (hd ts).s (hd ts.tail.tail).s, ts.tail.tail.tail) else none) else some (tName [] (hd ts).s, ts.tail)
end Pl
set_option maxHeartbeats 400000 in
set_option maxRecDepth 100000 in
theorem columnC (rb : Nat) (T ts : List Pl.Tok) (d : Nat) (b : Bool) (w : World) (hR : RC w rb T ts d b) (h1 : (Pl.hd ts).k = 1) :
    Calls Tryz.prog 337 #[.pointer (some ⟨rb, 0, none⟩)] w (PostR w rb T d b (Pl.pCol ts)) := by
  have HN := hide (nameC rb T ts d b w hR)
  obtain ⟨e1, e2, e3, _⟩ := nx_yes (b := b) (nxn h1)
  rw [e1, e2, e3] at HN
  have hz := hR.lt
  clear hR e1 e2 e3 h1
  by_cases h10 : (Pl.hd ts.tail).k = 10
  · have HV : Hid (Pl.pCol ts = if (Pl.hd ts.tail.tail).k = 1 then some (Pl.tName (Pl.hd ts).s (Pl.hd ts.tail.tail).s, ts.tail.tail.tail) else none) := by unfold Hid Pl.pCol; rw [if_pos h10]
    have hx := nxn h10
    obtain ⟨_, _, _, e4⟩ := nx_yes (b := b) hx
    go_enter Tryz.func337, Tryz.ntmps337
    go_wp2_with fail
    refine (unhide HN).mono ?_
    rintro e w1 ⟨rfl, hr1, hk1⟩
    have HT := hide (takeC 10 (by decide) rb T ts.tail d b w1 hr1)
    rw [hx, e4] at HT
    have HK1 := hide hk1
    clear hr1 hk1 HN hx e4
    go_wp2_with fail
    refine (unhide HT).mono ?_
    rintro e w2 ⟨rfl, hr2, hk2⟩
    have HN2 := hide (nameC rb T ts.tail.tail d b w2 hr2)
    have HK2 := hide (HK1.out.trans hk2)
    have hz2 := hr2.lt
    clear hr2 hk2 HT HK1
    go_wp2_with fail
    refine (unhide HN2).mono ?_
    rintro e w3 ⟨rfl, hr3, hk3⟩
    have HR3 := hide hr3
    have HK3 := hide (HK2.out.trans hk3)
    have hz3 := hr3.lt
    clear hr3 hk3
    go_wp2_with fail
    go_ret
    by_cases h11 : (Pl.hd ts.tail.tail).k = 1
    · obtain ⟨e1, e2, e3, _⟩ := nx_yes (b := b) (nxn h11)
      have h := HR3.out
      rw [e1, e2] at h
      rw [e3]
      exact PostR.some_ (by rw [HV.out, if_pos h11]) (HK3.out.alloc _) (CTree.name (by omega) _ _ (blk_new _ _)) (h.alloc _)
    · obtain ⟨e1, e2, e3, _⟩ := nx_no (b := b) (nxf h11)
      have h := HR3.out
      rw [e1, e2] at h
      exact PostR.none_ (by rw [HV.out, if_neg h11]) (HK3.out.alloc _) (h.alloc _)
  · have HV : Hid (Pl.pCol ts = some (Pl.tName [] (Pl.hd ts).s, ts.tail)) := by unfold Hid Pl.pCol; rw [if_neg h10]
    have hx := nxf h10
    obtain ⟨_, _, _, e4⟩ := nx_no (b := b) hx
    go_enter Tryz.func337, Tryz.ntmps337
    go_wp2_with fail
    refine (unhide HN).mono ?_
    rintro e w1 ⟨rfl, hr1, hk1⟩
    have HT := hide (takeC 10 (by decide) rb T ts.tail d b w1 hr1)
    rw [hx, e4] at HT
    have HK1 := hide hk1
    clear hr1 hk1 HN hx e4
    go_wp2_with fail
    refine (unhide HT).mono ?_
    rintro e w2 ⟨rfl, hr2, hk2⟩
    have HR2 := hide hr2
    have HK2 := hide (HK1.out.trans hk2)
    have hz2 := hr2.lt
    clear hr2 hk2 HT HK1
    go_wp2_with fail
    go_ret
    exact PostR.some_ HV.out (HK2.out.alloc _) (CTree.name (by omega) _ _ (blk_new _ _)) (HR2.out.alloc _)

end Go.Proofs.YtojdpjpldokjmaaGreatDoor
