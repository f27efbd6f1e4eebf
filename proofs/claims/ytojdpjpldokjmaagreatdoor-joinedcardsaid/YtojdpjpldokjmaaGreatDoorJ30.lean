/- The code's compileSources: the walk. -/
import Derived.Test.YtojdpjpldokjmaaGreatDoorJ29
namespace Go.Proofs.YtojdpjpldokjmaaGreatDoor
open Go.RowKit Go.Deep
set_option linter.unusedSimpArgs false
set_option linter.unusedVariables false

/-- The sources of a SELECT in memory. -/
structure SrcsIn (w : World) (ss : List (Pl.It × Value)) (v : Value) : Prop where
  rows : RowsW w w.heap.size 4 siC ss v
  trees : ∀ s ∈ ss, TrW w w.heap.size s.1.tree s.2
  ok : ∀ s ∈ ss, Pl.okW s.1.tree
  len : ss.length ≤ 3
  cap : ∀ a n c, v = .slice a n c → n ≤ c
  rules : RulesAt w
  glob : 9 < w.heap.size
theorem SrcsIn.below {w w' : World} {ss : List (Pl.It × Value)} {v : Value} (h : SrcsIn w ss v) (hb : Below w.heap.size w w') : SrcsIn w' ss v :=
  ⟨h.rows.below hb, fun s hs => ((h.trees s hs).keep (fun k hk => hb.block k hk)).more hb.size, h.ok, h.len, h.cap, h.rules.keep (hb.block _ h.glob), Nat.lt_of_lt_of_le h.glob hb.size⟩
def SrcErr (D : Pl.DB) (its : List Pl.It) (er : Nat) : Prop := Pl.srcsGo D [] its = .error er ∨ ∃ is, Pl.srcsGo D [] its = .ok is ∧ Pl.onsAll D [] is its = some er
/-- What compileSources leaves. -/
def PostSrcs (w : World) (D : Pl.DB) (lay : List Lay) (its : List Pl.It) (e : Ending) (w' : World) : Prop := Below w.heap.size w w' ∧
  ((∃ er, SrcErr D its er ∧ (er = 2 ∨ er = 3) ∧ e = .returned (.tuple #[.slice none 0 0, .slice none 0 0, .int .i64 (er : Nat)])) ∨
   (∃ is ps tv sv cv, Pl.srcsGo D [] its = .ok is ∧ Pl.onsAll D [] is its = none ∧ ps.length = is.length ∧ SrcsI w w' D lay is its tv sv cv is.length ps ∧ e = .returned (.tuple #[sv, cv, .int .i64 0])))
theorem own_nil {w : World} {base : Nat} {e : TypeId} {size : Nat} : w.ownsRow base e size (.slice none 0 0) 0 [] := World.ownsRow_nil _ _ _ _
theorem colsAt_len {D : Pl.DB} (h : Pl.okDB D) : ∀ (is : List Nat) (its : List Pl.It), (∀ i ∈ is, i < D.length) → (Pl.scopes D is its).length ≤ is.length * 5
  | [], its, _ => by cases its <;> simp [Pl.scopes]
  | i :: is, [], _ => by simp [Pl.scopes]
  | i :: is, it :: its, hi => by
    have h1 := colsAt_len h is its (fun j hj => hi j (by simp [hj]))
    have h2 := (h.2 _ (Pl.tabD_mem (hi i (by simp)))).ncols
    simp only [Pl.scopes, List.length_append, Pl.scope_len, List.length_cons]
    omega
theorem one_cells (cs : List Pl.Col) : ∀ u ∈ colsC cs, u.oneCell' = true := by
  intro u hu
  obtain ⟨c, _, hc⟩ := List.mem_flatMap.1 hu
  simp [colC] at hc
  rcases hc with rfl | rfl | rfl <;> rfl
theorem colsC_len (cs : List Pl.Col) : (colsC cs).length = cs.length * 3 := by
  induction cs with
  | nil => rfl
  | cons c cs ih =>
    have e : colsC (c :: cs) = colC c ++ colsC cs := by simp [colsC]
    rw [e, List.length_append, ih]
    simp [colC]; omega
theorem scopeAt {w : World} {M : Nat → Prop} {b : Nat} {lay : List Lay} {D : Pl.DB} (h : DbW w M b lay D) {ti : Nat} (hti : ti < D.length) (src : List UInt8) :
    Calls Tryz.prog 106 #[.pointer (some ⟨(lay.getD ti defL).n, 0, none⟩), .string ⟨src.toArray⟩] w fun e w' => ∃ v, e = .returned v ∧ ∃ g c, v = .slice (some ⟨g, 0, none⟩) (Pl.tabD D ti).cols.length c ∧ Below w.heap.size w w' ∧ ∀ j u, (colsC (Pl.scope src (Pl.tabD D ti)))[j]? = some u → w'.cell? ((⟨g, 0, none⟩ : Addr).add j) = some u := by
  have hdi : D[ti]? = some D[ti] := List.getElem?_eq_getElem hti
  have hlt : ti < lay.length := by rw [h.len]; exact hti
  have hli : lay[ti]? = some lay[ti] := List.getElem?_eq_getElem hlt
  have e1 : lay.getD ti defL = lay[ti] := by simp [List.getD, hli]
  have e2 : Pl.tabD D ti = D[ti] := by simp [Pl.tabD, List.getD, hdi]
  have hT := h.tabs ti _ _ hli hdi
  have hok := h.ok.2 _ (List.getElem_mem hti)
  rw [e1, e2]
  obtain ⟨cv, hblk, hcv, _⟩ := hT.blk
  have c1 := blk_cell hblk 1
  simp at c1
  refine (scopeM src _ _ cv w (lt_of_blk hblk) c1 (tcsC_rows hcv) (by have := hok.ncols; omega)).mono ?_
  rintro e w' ⟨hb, v, rfl, hown⟩
  obtain ⟨g, c, hv, hc⟩ := own_news hown (by have := hok.pos; simp; omega)
  exact ⟨v, rfl, g, c, by simpa using hv, hb, by rw [scope_map]; exact hc⟩

theorem Tryz.infoSrc : (Tryz.prog.info? 284).map (fun i => (i.zero, i.size, i.bytes)) = some (some (.agg #[.pointer none, .bool false, .slice none 0 0]), 3, 40) := by kernel_rfl
set_option maxHeartbeats 8000000 in
set_option maxRecDepth 100000 in
theorem compileSourcesM (ss : List (Pl.It × Value)) (v : Value) (w : World) (M : Nat → Prop) (b : Nat) (lay : List Lay) (D : Pl.DB) (h : DbW w M b lay D) (hss : SrcsIn w ss v) :
    Calls Tryz.prog 169 #[.pointer (some ⟨b, 0, none⟩), v] w (PostSrcs w D lay (ss.map (·.1))) := by
  obtain ⟨sa, sc, rfl⟩ := hss.rows.slice
  obtain ⟨i0, hi, hz0, hz1, hz2⟩ := info_parts Tryz.infoCol
  obtain ⟨j0, hj, hy0, hy1, hy2⟩ := info_parts Tryz.infoSrc
  have hl3 := hss.len
  have HTabs := hide (tablesOfM ss _ w M b lay D h hss.rows (fun s hs => (hss.trees s hs).ptr) (by omega) hss.cap)
  have HSS := hide hss
  have HDb := hide h
  clear hss h
  go_enter Tryz.func169, Tryz.ntmps169
  go_wp2_with fail
  refine (unhide HTabs).mono ?_
  rintro e w1 ⟨hb1, hpost⟩
  clear HTabs
  rcases hpost with ⟨herr, rfl⟩ | ⟨is, tv, hok, rfl, htabs⟩
  · have HE : Hid (SrcErr D (ss.map (·.1)) 2) := .inl herr
    have HB := hide hb1
    clear hb1 herr
    go_wp2_with fail
    exact bodyPost_ret (v := .tuple #[.slice none 0 0, .slice none 0 0, .int .i64 2]) (by simp [results, Tryz.results169, go_sem]) rfl ⟨HB.out, .inl ⟨2, HE.out, .inl rfl, rfl⟩⟩
  · obtain ⟨hisl, hisd⟩ := Pl.srcsGo_len hok
    simp only [List.length_map] at hisl
    have HI0 : Hid (SrcsI w w1 D lay is (ss.map (·.1)) tv (.slice none 0 0) (.slice none 0 0) 0 [] ∧ Pl.onsAll D (colsAt D is (ss.map (·.1)) 0) (is.drop 0) ((ss.map (·.1)).drop 0) = Pl.onsAll D [] is (ss.map (·.1))) :=
      ⟨⟨hb1, htabs, own_nil, by simpa [colsAt, Pl.scopes, colsC] using own_nil, by simp, by simp⟩, by simp [colsAt, Pl.scopes]⟩
    obtain ⟨ta, tc, htv⟩ := own_slice1 htabs
    have HOk := hide hok
    have HIs := hide hisd
    have HIl := hide hisl
    clear hok hisd hisl hb1 htabs
    rw [htv] at HI0
    rw [htv]
    clear htv
    go_wp2_with fail
    go_loopw [9, 10, 26] (fun s9 s10 s26 wr => ∃ (i : Nat) (ps : List Pl.Src), i ≤ ss.length ∧ s26 = .int .i64 i ∧ ps.length = i ∧ Hid (SrcsI w wr D lay is (ss.map (·.1)) (.slice ta is.length tc) s9 s10 i ps ∧ Pl.onsAll D (colsAt D is (ss.map (·.1)) i) (is.drop i) ((ss.map (·.1)).drop i) = Pl.onsAll D [] is (ss.map (·.1)))) (fun _ _ a _ => ss.length - (intOf a).toNat)
    case atStart => exact ⟨0, [], Nat.zero_le _, rfl, rfl, HI0⟩
    case round =>
      obtain ⟨i, ps, hi', rfl, hpl, HI⟩ := hrel
      clear HI0
      have HPl := hide hpl
      clear hpl
      have hbI := HI.out.1.bel
      have hbz := hbI.size
      obtain ⟨v1a, v1c, rfl⟩ := own_slice1 HI.out.1.srcs
      obtain ⟨v2a, v2c, rfl⟩ := own_slice1 HI.out.1.cols
      generalize hcl : (colsAt D is (ss.map (·.1)) i).length = cl at *
      have HCl := hide hcl
      clear hcl
      by_cases hlt : i < ss.length
      · have hsi : ss[i]? = some ss[i] := List.getElem?_eq_getElem hlt
        have hmem := List.getElem_mem hlt
        generalize ss[i] = s at *
        obtain ⟨it, tv⟩ := s
        obtain ⟨ti, hti⟩ : ∃ ti, is[i]? = some ti := ⟨_, List.getElem?_eq_getElem (by rw [HIl.out]; exact hlt)⟩
        have hits : (ss.map (·.1))[i]? = some it := by rw [List.getElem?_map, hsi]; rfl
        obtain ⟨g, cap, he, hg, e0, e1, e2, e3⟩ := (HSS.out.rows.keep (fun k hk => hbI.block k hk)).si hsi
        cases he
        have hgz : g < wr.heap.size := by omega
        simp only at e0 e1 e2 e3
        obtain ⟨a, ha⟩ := (HSS.out.trees _ hmem).ptr
        simp only at ha
        subst ha
        have htil : ti < D.length := HIs.out ti (List.mem_of_getElem? hti)
        obtain ⟨gt, gc, hgt, hgt2⟩ := own_news HI.out.1.tabs (by rw [HIl.out]; omega)
        cases hgt
        have et : wr.cell? ⟨gt, i, none⟩ = some (.pointer (some ⟨(lay.getD ti defL).n, 0, none⟩)) := by
          have := hgt2 i _ (by rw [ptrC, List.getElem?_map, hti]; rfl)
          rw [addr_add] at this
          exact this
        have hgtz : gt < wr.heap.size := by
          have := (HI.out.1.tabs.lt gt rfl).2
          exact this
        have htl : i < is.length := by rw [HIl.out]; exact hlt
        have HScope : Hid (∀ W', Below wr.heap.size wr W' → _) := fun W' hW => scopeAt (HDb.out.below (hbI.trans (hW.mono hbz))) htil it.other
        have HCols : Hid (colsAt D is (ss.map (·.1)) (i + 1) = colsAt D is (ss.map (·.1)) i ++ Pl.scope it.other (Pl.tabD D ti)) := Pl.scopes_snoc hti hits
        generalize htn : (lay.getD ti defL).n = tn at *
        have HTn := hide htn
        have HTi := hide hti
        have HIts := hide hits
        have HTil := hide htil
        have HMem := hide hmem
        have HBA : Hid (Below wr.heap.size wr (wr.alloc (.cells #[.string ⟨it.name.toArray⟩, .string ⟨it.other.toArray⟩, .bool it.mark, .pointer a] 324)).drew) := ((Below.refl _ _).alloc (Nat.le_refl _) _).drew
        have HBA2 := hide (blk_new wr (.cells #[.string ⟨it.name.toArray⟩, .string ⟨it.other.toArray⟩, .bool it.mark, .pointer a] 324))
        have HOld : Hid (∀ W', Below wr.heap.size wr W' → W'.ownsRow w.heap.size 271 3 (.slice v2a cl v2c) cl (colsC (colsAt D is (ss.map (·.1)) i))) := fun W' hW => by
          have := own_below hW HI.out.1.cols
          rw [HCl.out] at this
          exact this
        have HNcol : Hid ((Pl.tabD D ti).cols.length ≤ 5) := (HDb.out.ok.2 _ (Pl.tabD_mem htil)).ncols
        have HClen : Hid (cl ≤ 100) := by
          have := colsAt_len HDb.out.ok (is.take i) ((ss.map (·.1)).take i) (fun j hj => HIs.out j (List.mem_of_mem_take hj))
          have h2 : (is.take i).length ≤ 3 := by rw [List.length_take]; omega
          unfold Hid
          rw [← HCl.out]
          unfold colsAt
          omega
        have HScl : Hid ((colsC (Pl.scope it.other (Pl.tabD D ti))).length = (Pl.tabD D ti).cols.length * 3) := by unfold Hid; rw [colsC_len, Pl.scope_len]
        have HOne := hide (one_cells (Pl.scope it.other (Pl.tabD D ti)))
        clear htn hti hits htil hmem hbI hgt2 hsi
        generalize hnc : (Pl.tabD D ti).cols.length = nc at *
        have HNc := hide hnc
        clear hnc
        go_upto_region 9 with fail
        go_region_law (first
          | (refine step_call2 rfl 106 (.tmp 35) (.tmp 37) _ rfl (.pointer (some ⟨tn, 0, none⟩)) (.string ⟨it.other.toArray⟩) (ent_scope _ _) (by simp [Act.eval, Act.put]) (by simp [Act.eval, Act.put]) _ ((unhide HScope) _ HBA.out) ?_
             rintro v9 w9 ⟨g9, c9, rfl, hb9, hc9⟩
             have HX9 : Hid (w9.heap[wr.heap.size]? = some (.cells #[.string ⟨it.name.toArray⟩, .string ⟨it.other.toArray⟩, .bool it.mark, .pointer a] 324)) := (hb9.block _ (by simp [World.drew])).trans HBA2.out
             have HB9 := hide (HBA.out.trans (hb9.mono HBA.out.size))
             have HC9 := hide hc9
             clear hb9 hc9)
          | (refine step_append_at rfl (.tmp 31) (.tmp 38) 207 rfl w.heap.size 271 i0 _ 3 40 Tryz.underlying207 hi hz0 hz1 hz2 rfl (by decide) _ _ _ (by simp [Act.eval, Act.put]) (HOld.out _ HB9.out) ⟨g9, 0, none⟩ nc c9 (colsC (Pl.scope it.other (Pl.tabD D ti))) (by simp [Act.eval, Act.put]) HScl.out HC9.out HOne.out (by have := HNcol.out; have := HClen.out; unfold maxLen; omega) (by have := HNcol.out; have := HClen.out; omega) (by have := HB9.out.size; omega) ?_
             intro v8 w8 hown8 hg8 hfr8
             have HOwn8 := hide hown8
             have HG8 := hide hg8
             have HFr8 := hide hfr8
             clear hown8 hg8 hfr8))
        all_goals
          have hI8 := (HI.out.1.below HB9.out).more (cv' := v8) (w4 := w8) (by rw [HCols.out, colsC_app, List.length_append, Pl.scope_len, HCl.out, HNc.out]; exact HOwn8.out) HG8.out HFr8.out
          have hx8 : w8.heap[wr.heap.size]? = some (.cells #[.string ⟨it.name.toArray⟩, .string ⟨it.other.toArray⟩, .bool it.mark, .pointer a] 324) := (HG8.out.block _ (lt_of_blk HX9.out) (fun e => by have := (HI.out.1.cols.lt _ e.symm).2; omega)).trans HX9.out
          have hz8 : wr.heap.size < w8.heap.size := lt_of_blk hx8
          have y2 := blk_cell hx8 2
          have y3 := blk_cell hx8 3
          simp at y2 y3
          have hS8 := HSS.out.below hI8.bel
          have HCond := hide (conditionM it.tree (colsAt D is (ss.map (·.1)) (i + 1)) (.pointer a) v8 w8 ⟨hS8.rules, hS8.glob, hS8.trees _ HMem.out, hS8.ok _ HMem.out, own_rows (f := colC) (fun _ => rfl) hI8.cols (Nat.le_refl _), by rw [HCols.out, List.length_append, Pl.scope_len, HCl.out, HNc.out]; have := HNcol.out; have := HClen.out; omega⟩)
          obtain ⟨v8a, v8n, v8c, rfl⟩ := own_slice hI8.cols
          have HI8 := hide hI8
          have HX8 := hide hx8
          clear hI8 hS8 hx8 HOwn8 HG8 HFr8 HB9 HX9 HC9 e0 e1 e2 e3 et HScope HOld
          go_wp2_with fail
          refine (unhide HCond).mono ?_
          rintro e w5 ⟨hb5, hpost⟩
          clear HCond
          rcases hpost with ⟨er, her, rfl⟩ | ⟨cv5, htc, rfl, hprog⟩
          · have hne : ((er : Int) != 0) = true := by have := tcAs_err her; simp; omega
            have HE : Hid (PostSrcs w D lay (ss.map (·.1)) (.returned (.tuple #[.slice none 0 0, .slice none 0 0, .int .i64 (er : Nat)])) (w5.alloc (.cells #[.slice none 0 0] 204))) := by
              refine ⟨(HI8.out.bel.trans (hb5.mono HI8.out.bel.size)).alloc (by have := HI8.out.bel.size; have := hb5.size; omega) _, .inl ⟨er, .inr ⟨is, HOk.out, ?_⟩, tcAs_err her, rfl⟩⟩
              rw [← HI.out.2]
              rw [HCols.out] at her
              exact Pl.onsAll_err HTi.out HIts.out her
            clear her hb5
            go_wp2_with fail
            exact bodyPost_ret (v := .tuple #[.slice none 0 0, .slice none 0 0, .int .i64 (er : Nat)]) (by simp [results, Tryz.results169, go_sem]) rfl HE.out
          · have hI5 := HI8.out.below hb5
            obtain ⟨pa, pn, pc, rfl⟩ := hprog.slice
            have HP5 : Hid (ProgP w5 (off2 w5 (.slice v1a ps.length v1c) (.slice v8a v8n v8c)) (colsAt D is (ss.map (·.1)) (i + 1)) (Pl.cond it.tree) (.slice pa pn pc)) := RowsP.mono hprog (fun k hk => off2_new HI8.out.srcs HI8.out.cols hk)
            have et5 : w5.cell? ⟨gt, i, none⟩ = some (.pointer (some ⟨tn, 0, none⟩)) := by
              obtain ⟨gt', gc', hgt', hgt2'⟩ := own_news hI5.tabs (by rw [HIl.out]; omega)
              cases hgt'
              have := hgt2' i _ (by rw [ptrC, List.getElem?_map, HTi.out]; rfl)
              rw [addr_add] at this
              rw [← HTn.out]
              exact this
            have hx5 := below_blk hb5 hz8 HX8.out
            have z2 := blk_cell hx5 2
            simp at z2
            have hz5 : w8.heap.size ≤ w5.heap.size := hb5.size
            have hgt5 : gt < w5.heap.size := by omega
            have hwr5 : wr.heap.size < w5.heap.size := by omega
            have hps : ps.length ≤ 3 := by rw [HPl.out]; omega
            have HBY : Hid (Below w5.heap.size w5 ((w5.alloc (.cells #[.slice pa pn pc] 204)).drew.alloc (.cells #[.pointer (some ⟨tn, 0, none⟩), .bool it.mark, .slice pa pn pc] 284))) := (((Below.refl _ _).alloc (Nat.le_refl _) _).drew).alloc (by simp [World.drew]) _
            have HNw : Hid (∀ j u, [Value.pointer (some ⟨tn, 0, none⟩), .bool it.mark, .slice pa pn pc][j]? = some u → ((w5.alloc (.cells #[.slice pa pn pc] 204)).drew.alloc (.cells #[.pointer (some ⟨tn, 0, none⟩), .bool it.mark, .slice pa pn pc] 284)).cell? ((⟨w5.heap.size + 1, 0, none⟩ : Addr).add j) = some u) := by
              have := news_at (w5.alloc (.cells #[.slice pa pn pc] 204)).drew [.pointer (some ⟨tn, 0, none⟩), .bool it.mark, .slice pa pn pc] 284
              rw [show (w5.alloc (.cells #[.slice pa pn pc] 204)).drew.heap.size = w5.heap.size + 1 by simp [World.drew]] at this
              exact this
            have HOn : Hid (∀ u ∈ [Value.pointer (some ⟨tn, 0, none⟩), .bool it.mark, .slice pa pn pc], u.oneCell' = true) := by
              intro u hu
              simp at hu
              rcases hu with rfl | rfl | rfl <;> rfl
            have HEv : Hid (Pl.onsAll D (colsAt D is (ss.map (·.1)) (i + 1)) (is.drop (i + 1)) ((ss.map (·.1)).drop (i + 1)) = Pl.onsAll D [] is (ss.map (·.1))) := by
              unfold Hid
              rw [← HI.out.2, HCols.out]
              rw [HCols.out] at htc
              exact (Pl.onsAll_ok HTi.out HIts.out htc).symm
            have HI5 := hide hI5
            have hwz5 : w.heap.size ≤ w5.heap.size := by omega
            have HYz := hide (Nat.le_trans hwz5 HBY.out.size)
            clear hI5 hx5 hprog htc hb5 y2 y3 HX8 HI8
            go_upto_region 13 with fail
            go_region_law (refine step_append_at rfl (.tmp 50) (.tmp 59) 219 rfl w.heap.size 284 j0 _ 3 40 Tryz.underlying219 hj hy0 hy1 hy2 rfl (by decide) _ _ _ (by simp [Act.eval, Act.put]) (own_below HBY.out HI5.out.srcs) ⟨w5.heap.size + 1, 0, none⟩ 1 1 [.pointer (some ⟨tn, 0, none⟩), .bool it.mark, .slice pa pn pc] (by simp [Act.eval, Act.put]) rfl HNw.out HOn.out (by unfold maxLen; omega) (by omega) HYz.out ?_
                           intro v7 w7 hown7 hg7 hfr7
                           have HOwn7 := hide hown7
                           have HG7 := hide hg7
                           have HFr7 := hide hfr7
                           clear hown7 hg7 hfr7)
            all_goals
              have HNext : Hid (SrcsI w w7 D lay is (ss.map (·.1)) (.slice (some ⟨gt, 0, none⟩) is.length tc) v7 (.slice v8a v8n v8c) (i + 1) (ps ++ [mkSrc D lay (colsAt D is (ss.map (·.1)) (i + 1)) ti it (.slice pa pn pc)])) := by
                have e : srcC (mkSrc D lay (colsAt D is (ss.map (·.1)) (i + 1)) ti it (.slice pa pn pc)) = [.pointer (some ⟨tn, 0, none⟩), .bool it.mark, .slice pa pn pc] := by rw [← HTn.out]; rfl
                exact (HI5.out.below HBY.out).push HPl.out HTi.out HIts.out ((RowsP.keep HP5.out (fun k hk => (off2.below HBY.out hk).2)).mono (fun k hk => (off2.below HBY.out hk).1)) (by rw [e]; exact HOwn7.out) HG7.out HFr7.out
              clear HOwn7 HG7 HFr7
              go_wp2_with fail
              go_roundw
              case rel => exact ⟨i + 1, _, by omega, by go_num, by rw [List.length_append, HPl.out]; rfl, HNext.out, HEv.out⟩
              case measure => simp [intOf]; omega
      · obtain rfl : i = ss.length := by omega
        have HE : Hid (PostSrcs w D lay (ss.map (·.1)) (.returned (.tuple #[.slice v1a ps.length v1c, .slice v2a cl v2c, .int .i64 0])) wr) := by
          have h1 := HI.out.1
          have h2 := HI.out.2
          rw [← HIl.out] at h1 h2
          rw [List.drop_length] at h2
          exact ⟨h1.bel, .inr ⟨is, ps, _, _, _, HOk.out, by rw [← h2]; simp [Pl.onsAll], by rw [HPl.out, HIl.out], h1, rfl⟩⟩
        clear hbI
        go_wp2_with fail
        exact bodyPost_ret (v := .tuple #[.slice v1a ps.length v1c, .slice v2a cl v2c, .int .i64 0]) (by simp [results, Tryz.results169, go_sem]) rfl HE.out
end Go.Proofs.YtojdpjpldokjmaaGreatDoor
/- A SELECT's sources: what the code has made of them, and what joining them comes to. -/
namespace Go.Proofs.YtojdpjpldokjmaaGreatDoor
open Go.RowKit Go.Deep
set_option linter.unusedSimpArgs false
set_option linter.unusedVariables false

def SrcL (D : Pl.DB) (lay : List Lay) : List Pl.Col → List Nat → List Pl.It → List Pl.Src → Prop
  | cols, i :: is, it :: its, s :: ss => (∃ u, s = mkSrc D lay (cols ++ Pl.scope it.other (Pl.tabD D i)) i it u) ∧ SrcL D lay (cols ++ Pl.scope it.other (Pl.tabD D i)) is its ss
  | _, [], [], [] => True
  | _, _, _, _ => False
theorem srcL_of {D : Pl.DB} {lay : List Lay} : ∀ {ps : List Pl.Src} {is : List Nat} {its : List Pl.It} {cols : List Pl.Col}, ps.length = is.length → is.length = its.length →
    (∀ (j : Nat) (s : Pl.Src), ps[j]? = some s → ∃ ti it u, is[j]? = some ti ∧ its[j]? = some it ∧ s = mkSrc D lay (cols ++ Pl.scopes D (is.take (j + 1)) (its.take (j + 1))) ti it u) → SrcL D lay cols is its ps
  | [], [], [], cols, _, _, _ => trivial
  | [], [], _ :: _, _, _, h, _ => by simp at h
  | [], _ :: _, _, _, h, _, _ => by simp at h
  | _ :: _, [], _, _, h, _, _ => by simp at h
  | _ :: _, _ :: _, [], _, _, h, _ => by simp at h
  | s :: ps, i :: is, it :: its, cols, h1, h2, h => by
    obtain ⟨ti, it', u, e1, e2, e3⟩ := h 0 s rfl
    simp at e1 e2
    subst e1; subst e2
    refine ⟨⟨u, by rw [e3]; simp [Pl.scopes]⟩, srcL_of (by simpa using h1) (by simpa using h2) (fun j x hx => ?_)⟩
    obtain ⟨ti', it', u', k1, k2, k3⟩ := h (j + 1) x (by simpa using hx)
    refine ⟨ti', it', u', by simpa using k1, by simpa using k2, ?_⟩
    rw [k3]
    simp only [List.take_succ_cons, Pl.scopes, List.append_assoc]
theorem zip_fst {α β : Type} : ∀ {a : List α} {b : List β}, a.length ≤ b.length → (a.zip b).map (·.1) = a
  | [], b, _ => by simp
  | _ :: _, [], h => by simp at h
  | x :: a, y :: b, h => by simp [zip_fst (a := a) (b := b) (by simpa using h)]
/-- A database's tables have as many rows as values for them. -/
theorem DbW.us {w : World} {M : Nat → Prop} {b : Nat} {lay : List Lay} {D : Pl.DB} (h : DbW w M b lay D) {i : Nat} (hi : i < D.length) : TabW w M (lay.getD i defL) (Pl.tabD D i) ∧ (lay.getD i defL).us.length = (Pl.tabD D i).rows.length ∧ Pl.okTab (Pl.tabD D i) := by
  have hdi : D[i]? = some D[i] := List.getElem?_eq_getElem hi
  have hli : lay[i]? = some (lay[i]'(by rw [h.len]; exact hi)) := List.getElem?_eq_getElem _
  have e1 : lay.getD i defL = lay[i]'(by rw [h.len]; exact hi) := by simp [List.getD, hli]
  have e2 : Pl.tabD D i = D[i] := by simp [Pl.tabD, List.getD, hdi]
  have hT := h.tabs i _ _ hli hdi
  rw [e1, e2]
  exact ⟨hT, by have := hT.rows.1; omega, h.ok.2 _ (List.getElem_mem hi)⟩
theorem joinsP_all {D : Pl.DB} {lay : List Lay} : ∀ {ps : List Pl.Src} {is : List Nat} {its : List Pl.It} {cols : List Pl.Col} {rows : List (List Pl.V)}, SrcL D lay cols is its ps → (∀ i ∈ is, (lay.getD i defL).us.length = (Pl.tabD D i).rows.length) → Pl.joinsP ps rows = Pl.joinsAll D cols rows is its
  | [], [], [], cols, rows, _, _ => rfl
  | [], [], _ :: _, _, _, h, _ => h.elim
  | [], _ :: _, [], _, _, h, _ => h.elim
  | [], _ :: _, _ :: _, _, _, h, _ => h.elim
  | _ :: _, [], [], _, _, h, _ => h.elim
  | _ :: _, [], _ :: _, _, _, h, _ => h.elim
  | _ :: _, _ :: _, [], _, _, h, _ => h.elim
  | s :: ps, i :: is, it :: its, cols, rows, ⟨⟨u, hs⟩, hr⟩, hz => by
    have hq : s.qs.map (·.1) = (Pl.tabD D i).rows := by rw [hs]; exact zip_fst (Nat.le_of_eq (hz i (by simp)).symm)
    unfold Pl.joinsP Pl.joinsAll
    rw [hq]
    rw [hs]
    simp only [mkSrc]
    cases Pl.joinRows (cols ++ Pl.scope it.other (Pl.tabD D i)) (Pl.cond it.tree) it.mark (Pl.tabD D i).cols.length (Pl.tabD D i).rows rows with
    | error e => rfl
    | ok z => exact joinsP_all hr (fun j hj => hz j (by simp [hj]))
theorem onsAll_cons {db : Pl.DB} {cols : List Pl.Col} {i : Nat} {is : List Nat} {it : Pl.It} {its : List Pl.It} (h : Pl.onsAll db cols (i :: is) (it :: its) = none) : Pl.tcAs (cols ++ Pl.scope it.other (Pl.tabD db i)) (Pl.cond it.tree) 3 = none ∧ Pl.onsAll db (cols ++ Pl.scope it.other (Pl.tabD db i)) is its = none := by
  rw [Pl.onsAll] at h
  cases ht : Pl.tcAs (cols ++ Pl.scope it.other (Pl.tabD db i)) (Pl.cond it.tree) 3 with
  | none => rw [ht] at h; exact ⟨rfl, h⟩
  | some e => rw [ht] at h; cases h
theorem srcsOk_of {D : Pl.DB} {lay : List Lay} (hD : Pl.okDB D) : ∀ {ps : List Pl.Src} {is : List Nat} {its : List Pl.It} {cols : List Pl.Col} {rows : List (List Pl.V)}, SrcL D lay cols is its ps → (∀ i ∈ is, (lay.getD i defL).us.length = (Pl.tabD D i).rows.length ∧ i < D.length) → (∀ it ∈ its, Pl.okW it.tree) → Pl.onsAll D cols is its = none → (∀ r ∈ rows, Pl.RowFor cols r) → cols.length + 5 * ps.length ≤ 100 → rows.length * 25 ^ ps.length ≤ 20000 → Pl.SrcsOk ps rows
  | [], _, _, _, _, _, _, _, _, _, _, _ => trivial
  | _ :: _, [], [], _, _, h, _, _, _, _, _, _ => h.elim
  | _ :: _, [], _ :: _, _, _, h, _, _, _, _, _, _ => h.elim
  | _ :: _, _ :: _, [], _, _, h, _, _, _, _, _, _ => h.elim
  | s :: ps, i :: is, it :: its, cols, rows, ⟨⟨u, hs⟩, hr⟩, hz, hw, ho, hrow, hc, hn => by
    obtain ⟨ht, ho2⟩ := onsAll_cons ho
    obtain ⟨hz1, hz2⟩ := hz i (by simp)
    have htab := hD.2 _ (Pl.tabD_mem hz2)
    have hq : s.qs.map (·.1) = (Pl.tabD D i).rows := by rw [hs]; exact zip_fst (Nat.le_of_eq hz1.symm)
    have hql : s.qs.length = (Pl.tabD D i).rows.length := by rw [← hq]; simp
    have hqf : ∀ q ∈ s.qs, Pl.RowFor (Pl.scope it.other (Pl.tabD D i)) q.1 := fun q hq' => (htab.rows _ (by rw [← hq]; exact List.mem_map_of_mem hq')).src
    have hscl := Pl.scope_len it.other (Pl.tabD D i)
    have e1 : s.cols = cols ++ Pl.scope it.other (Pl.tabD D i) := by rw [hs]; rfl
    have e2 : s.c = Pl.cond it.tree := by rw [hs]; rfl
    have e3 : s.n = (Pl.tabD D i).cols.length := by rw [hs]; rfl
    have h5 := htab.ncols
    have h1 := htab.pos
    have hpow : 1 ≤ 25 ^ ps.length := Nat.one_le_pow _ _ (by omega)
    have hrl : rows.length * 25 * 25 ^ ps.length ≤ 20000 := by
      rw [List.length_cons, Nat.pow_succ, Nat.mul_comm (25 ^ ps.length) 25, ← Nat.mul_assoc] at hn
      exact hn
    have hrl2 : rows.length * 25 ≤ 20000 := Nat.le_trans (Nat.le_mul_of_pos_right _ (by omega)) hrl
    simp only [List.length_cons] at hc
    refine ⟨⟨?_, ?_, ?_, ?_, by omega, by omega, by omega, by rw [hql]; exact htab.nrows⟩, ?_⟩
    · rw [e1, e2]
      obtain ⟨ty, h, _⟩ := Pl.tcAs_ok ht
      exact ⟨Pl.cond_ok (hw it (by simp)), ty, h⟩
    · intro p hp q hq'
      have := (hrow p hp).append (hqf q hq')
      rw [e1]
      exact ⟨this.2.1, Nat.le_of_eq this.1.symm⟩
    · intro p hp
      rw [(hrow p hp).1]; omega
    · intro q hq'
      have := (hqf q hq').1
      refine ⟨by omega, fun e => ?_⟩
      rw [e] at this
      simp at this
      omega
    · intro z hzz
      rw [hq, e1, e2, e3, ← hscl] at hzz
      obtain ⟨k1, k2⟩ := Pl.joinRows_ok (fun q hq' => (htab.rows q hq').src) htab.nrows hrow hzz
      refine srcsOk_of hD hr (fun j hj => hz j (by simp [hj])) (fun j hj => hw j (by simp [hj])) ho2 k1 (by rw [List.length_append]; omega) (Nat.le_trans (Nat.mul_le_mul_right _ k2) hrl)
theorem SrcL.at {D : Pl.DB} {lay : List Lay} : ∀ {ps : List Pl.Src} {is : List Nat} {its : List Pl.It} {cols : List Pl.Col}, SrcL D lay cols is its ps → ∀ s ∈ ps, ∃ c i it u, i ∈ is ∧ s = mkSrc D lay c i it u
  | [], _, _, _, _, s, hs => by simp at hs
  | _ :: _, [], [], _, h, _, _ => h.elim
  | _ :: _, [], _ :: _, _, h, _, _ => h.elim
  | _ :: _, _ :: _, [], _, h, _, _ => h.elim
  | x :: ps, i :: is, it :: its, cols, ⟨⟨u, hx⟩, hr⟩, s, hs => by
    rcases List.mem_cons.1 hs with rfl | hs
    · exact ⟨_, i, it, u, by simp, hx⟩
    · obtain ⟨c, j, jt, u', h1, h2⟩ := SrcL.at hr s hs
      exact ⟨c, j, jt, u', by simp [h1], h2⟩
/-- Each source lies in memory as join reads it. -/
theorem srcW_of {w : World} {M : Nat → Prop} {b : Nat} {lay : List Lay} {D : Pl.DB} (h : DbW w M b lay D) {i : Nat} (hi : i < D.length) {cols : List Pl.Col} {it : Pl.It} {u : Value} {s : Pl.Src} (hs : s = mkSrc D lay cols i it u) (hp : ProgW w w.heap.size s.cols s.c s.cv) : SrcW w w.heap.size s.cols s.tn s.lf s.c s.qs s.n s.cv := by
  obtain ⟨hT, hl, hok⟩ := h.us hi
  obtain ⟨cv, hblk, hcv, _⟩ := hT.blk
  have c1 := blk_cell hblk 1
  have c2 := blk_cell hblk 2
  simp at c1 c2
  have hrow := hT.rows
  subst hs
  refine ⟨hp, lt_of_blk hblk, ⟨_, c2, ?_⟩, fun q hq => ?_, ?_⟩
  · refine own_rows (f := fun p : Pl.PRow => [p.2]) (fun _ => rfl) (base := 0) (e := 32) ?_ (Nat.le_refl _)
    have e : ((Pl.tabD D i).rows.zip (lay.getD i defL).us).flatMap (fun p : Pl.PRow => [p.2]) = (lay.getD i defL).us := by
      rw [sndC_flat]
      unfold sndC
      have : ∀ (a : List (List Pl.V)) (b : List Value), b.length = a.length → (a.zip b).map (·.2) = b := fun a => by
        induction a with
        | nil => intro b hb; simp at hb; subst hb; rfl
        | cons x a ih => intro b hb; cases b with
          | nil => rfl
          | cons y b => simp [ih b (by simpa using hb)]
      exact this _ _ hl
    show w.ownsRow 0 _ 1 _ ((Pl.tabD D i).rows.zip (lay.getD i defL).us).length (((Pl.tabD D i).rows.zip (lay.getD i defL).us).flatMap (fun p : Pl.PRow => [p.2]))
    rw [e, List.length_zip, hl, Nat.min_self]
    exact hrow
  · obtain ⟨j, hj, hjq⟩ := List.getElem_of_mem hq
    have hjz : ((Pl.tabD D i).rows.zip (lay.getD i defL).us)[j]? = some q := by rw [← hjq]; exact List.getElem?_eq_getElem hj
    rw [List.getElem?_zip_eq_some] at hjz
    have hro := hT.each j q.1 q.2 hjz.1 hjz.2
    have hrf := hok.rows q.1 (List.mem_of_getElem? hjz.1)
    refine RowS.own hro.1 (fun e => ?_)
    have := hrf.1
    rw [e, Pl.scope_len] at this
    have := hok.pos
    simp at *
    omega
  · obtain ⟨a, c, hcv'⟩ := own_slice1 hcv
    subst hcv'
    exact ⟨a, c, c1⟩
end Go.Proofs.YtojdpjpldokjmaaGreatDoor
/- A SELECT in memory; the code's compileQuery. -/
namespace Go.Proofs.YtojdpjpldokjmaaGreatDoor.Pl
theorem star_ok (c : Col) : okT (tName c.src c.name) := by
  refine ⟨?_, ?_, ?_⟩
  · simp [tName, Wf]
  · simp [tName, WfK]
  · simp [tName, sz]
theorem stars_ok (cols : List Col) : ∀ t ∈ stars cols, okT t := by
  intro t ht
  obtain ⟨c, _, rfl⟩ := List.mem_map.1 ht
  exact star_ok c
/-- What a SELECT comes to whose names and types are right. -/
def chosenOf (D : DB) (s : St) (is : List Nat) : Out (List (List V)) := match joinsAll D [] [[]] is s.sources with
  | .error e => .error e
  | .ok rows => chosen (scopes D is s.sources) s rows
theorem choose_1 {D : DB} {s : St} {er : Nat} (h : srcsGo D [] s.sources = .error er) : choose D s = .error er := by unfold choose; rw [h]
theorem choose_2 {D : DB} {s : St} {is : List Nat} {er : Nat} (h : srcsGo D [] s.sources = .ok is) (h2 : onsAll D [] is s.sources = some er) : choose D s = .error er := by unfold choose; rw [h]; simp only [h2]
theorem choose_3 {D : DB} {s : St} {is : List Nat} {er : Nat} (h : srcsGo D [] s.sources = .ok is) (h2 : onsAll D [] is s.sources = none) (h3 : tcAll (scopes D is s.sources) (valuesOf s (scopes D is s.sources)) = some er) : choose D s = .error er := by unfold choose; rw [h]; simp only [h2, h3]
theorem choose_4 {D : DB} {s : St} {is : List Nat} {er : Nat} (h : srcsGo D [] s.sources = .ok is) (h2 : onsAll D [] is s.sources = none) (h3 : tcAll (scopes D is s.sources) (valuesOf s (scopes D is s.sources)) = none) (h4 : tcAs (scopes D is s.sources) (cond s.whr) 3 = some er) : choose D s = .error er := by unfold choose; rw [h]; simp only [h2, h3, h4]
theorem choose_5 {D : DB} {s : St} {is : List Nat} {er : Nat} (h : srcsGo D [] s.sources = .ok is) (h2 : onsAll D [] is s.sources = none) (h3 : tcAll (scopes D is s.sources) (valuesOf s (scopes D is s.sources)) = none) (h4 : tcAs (scopes D is s.sources) (cond s.whr) 3 = none) (h5 : tcAll (scopes D is s.sources) (s.keys.map (·.tree)) = some er) : choose D s = .error er := by unfold choose; rw [h]; simp only [h2, h3, h4, h5]
theorem choose_6 {D : DB} {s : St} {is : List Nat} (h : srcsGo D [] s.sources = .ok is) (h2 : onsAll D [] is s.sources = none) (h3 : tcAll (scopes D is s.sources) (valuesOf s (scopes D is s.sources)) = none) (h4 : tcAs (scopes D is s.sources) (cond s.whr) 3 = none) (h5 : tcAll (scopes D is s.sources) (s.keys.map (·.tree)) = none) : choose D s = chosenOf D s is := by unfold choose chosenOf; rw [h]; simp only [h2, h3, h4, h5]; cases joinsAll D [] [[]] is s.sources <;> rfl
end Go.Proofs.YtojdpjpldokjmaaGreatDoor.Pl
namespace Go.Proofs.YtojdpjpldokjmaaGreatDoor
open Go.RowKit Go.Deep
set_option linter.unusedSimpArgs false
set_option linter.unusedVariables false

def limV (l : Int) : Int := if l = -1 then 9223372036854775807 else l
/-- A SELECT in memory. -/
structure SelIn (w : World) (n : Nat) (s : Pl.St) (ss : List (Pl.It × Value)) (vs : List (Pl.T × Value)) (ks : List Key) (u x v o : Value) : Prop where
  blk : w.heap[n]? = some (.cells #[.bool s.distinct, u, x, v, o, .int .i64 (limV s.limit), .int .i64 s.offset] 229)
  srcs : SrcsIn w ss x
  srcsE : ss.map (·.1) = s.sources
  all : s.all = true → u = .slice none 0 0
  vals : s.all = false → TreesW w w.heap.size vs u ∧ vs.map (·.1) = s.items.map (·.tree) ∧ vs ≠ []
  whr : TrW w w.heap.size s.whr v
  keys : KeysW w w.heap.size ks o
  keysE : ks.map (·.1) = s.keys.map (·.tree)
  keysD : dsOf ks = s.keys.map (·.mark)
  ok : Pl.okSt s
  kind : s.kind = 115
theorem SelIn.below {w w' : World} {n : Nat} {s : Pl.St} {ss : List (Pl.It × Value)} {vs : List (Pl.T × Value)} {ks : List Key} {u x v o : Value} (h : SelIn w n s ss vs ks u x v o) (hb : Below w.heap.size w w') : SelIn w' n s ss vs ks u x v o :=
  ⟨below_blk hb (lt_of_blk h.blk) h.blk, h.srcs.below hb, h.srcsE, h.all, fun ha => ⟨(h.vals ha).1.below hb, (h.vals ha).2⟩, (h.whr.keep (fun k hk => hb.block k hk)).more hb.size, ⟨h.keys.1.below hb, fun k hk => ((h.keys.2 k hk).keep (fun j hj => hb.block j hj)).more hb.size⟩, h.keysE, h.keysD, h.ok, h.kind⟩
theorem valsM {w : World} {n : Nat} {s : Pl.St} {ss : List (Pl.It × Value)} {vs : List (Pl.T × Value)} {ks : List Key} {u x v o : Value} (h : SelIn w n s ss vs ks u x v o) (cols : List Pl.Col) (cv : Value) (hcv : RowsW w w.heap.size 3 colC cols cv) (hl : cols.length ≤ 1000) :
    Calls Tryz.prog 171 #[.pointer (some ⟨n, 0, none⟩), cv] w (PostVals w (Pl.valuesOf s cols)) := by
  have c1 := blk_cell h.blk 1
  simp at c1
  have hn := lt_of_blk h.blk
  unfold Pl.valuesOf
  cases ha : s.all with
  | true =>
    rw [h.all ha] at c1
    simp only [if_true]
    exact valuesOfM cols n cv w hn c1 hcv hl
  | false =>
    obtain ⟨h1, h2, h3⟩ := h.vals ha
    simp only [Bool.false_eq_true, if_false]
    obtain ⟨a, c, rfl, h4⟩ := h1.1
    obtain ⟨g, rfl, hg, _⟩ := h4 h3
    refine (valuesOfM' _ _ _ n cv w hn c1).mono ?_
    rintro e w' ⟨rfl, rfl⟩
    exact ⟨Below.refl _ _, _, vs, rfl, h2, h1⟩
theorem vals_ok {s : Pl.St} (hs : Pl.okSt s) (hk : s.kind = 115) (cols : List Pl.Col) : ∀ t ∈ Pl.valuesOf s cols, Pl.okT t := by
  unfold Pl.valuesOf
  intro t ht
  split at ht
  · exact Pl.stars_ok cols t ht
  · obtain ⟨i, hi, rfl⟩ := List.mem_map.1 ht
    exact hs.items (by omega) i hi
theorem vals_len {s : Pl.St} (hs : Pl.okSt s) (cols : List Pl.Col) (hc : cols.length ≤ 600) : (Pl.valuesOf s cols).length ≤ 600 := by
  unfold Pl.valuesOf
  split
  · simp [Pl.stars]; exact hc
  · have := hs.len; simpa using this
theorem tcAll_err {cols : List Pl.Col} : ∀ {ts : List Pl.T} {er : Nat}, Pl.tcAll cols ts = some er → er = 2 ∨ er = 3
  | [], er, h => by simp [Pl.tcAll] at h
  | t :: ts, er, h => by
    rw [Pl.tcAll] at h
    cases ht : Pl.tc cols t with
    | error e =>
      rw [ht] at h
      simp at h
      subst h
      have : Pl.tcAs cols t 0 = some e := by unfold Pl.tcAs; rw [ht]
      exact tcAs_err this
    | ok ty => rw [ht] at h; exact tcAll_err h
/-- A SELECT whose names and types are right, in memory. -/
structure QueryW (w : World) (D : Pl.DB) (lay : List Lay) (s : Pl.St) (is : List Nat) (ps : List Pl.Src) (vs os : List (Pl.T × Value)) (sv vv wv ov : Value) : Prop where
  is_ : is.length = s.sources.length ∧ ∀ i ∈ is, i < D.length
  ons : Pl.onsAll D [] is s.sources = none
  srcL : SrcL D lay [] is s.sources ps
  srcs : RowsW w w.heap.size 3 srcC ps sv
  srcP : ∀ x ∈ ps, ProgW w w.heap.size x.cols x.c x.cv
  vals : ProgsW w w.heap.size (Pl.scopes D is s.sources) vs vv
  valsE : vs.map (·.1) = Pl.valuesOf s (Pl.scopes D is s.sources)
  valsF : ∀ p ∈ vs, Pl.Fine (Pl.scopes D is s.sources) p.1
  whr : ProgW w w.heap.size (Pl.scopes D is s.sources) (Pl.cond s.whr) wv
  whrF : Pl.Fine (Pl.scopes D is s.sources) (Pl.cond s.whr)
  ords : ProgsW w w.heap.size (Pl.scopes D is s.sources) os ov
  ordsE : os.map (·.1) = s.keys.map (·.tree)
  ordsF : ∀ p ∈ os, Pl.Fine (Pl.scopes D is s.sources) p.1
theorem QueryW.below {w w' : World} {D : Pl.DB} {lay : List Lay} {s : Pl.St} {is : List Nat} {ps : List Pl.Src} {vs os : List (Pl.T × Value)} {sv vv wv ov : Value} (h : QueryW w D lay s is ps vs os sv vv wv ov) (hb : Below w.heap.size w w') : QueryW w' D lay s is ps vs os sv vv wv ov :=
  ⟨h.is_, h.ons, h.srcL, h.srcs.below hb, fun x hx => (h.srcP x hx).below hb, h.vals.below hb, h.valsE, h.valsF, h.whr.below hb, h.whrF, h.ords.below hb, h.ordsE, h.ordsF⟩
/-- What compileQuery leaves. -/
def PostQ (w : World) (D : Pl.DB) (lay : List Lay) (s : Pl.St) (e : Ending) (w' : World) : Prop := Below w.heap.size w w' ∧
  ((∃ er : Nat, Pl.choose D s = .error er ∧ (er = 2 ∨ er = 3) ∧ e = .returned (.tuple #[.agg #[.slice none 0 0, .slice none 0 0, .slice none 0 0, .slice none 0 0], .int .i64 (er : Nat)])) ∨
   (∃ is ps vs os sv vv wv ov, Pl.choose D s = Pl.chosenOf D s is ∧ e = .returned (.tuple #[.agg #[sv, vv, wv, ov], .int .i64 0]) ∧ QueryW w' D lay s is ps vs os sv vv wv ov))

theorem gen_ne (cols : List Pl.Col) : ∀ (t : Pl.T) (b : Nat), Pl.Wf t → Pl.gen cols b t ≠ []
  | .nil, b, h => h.elim
  | .node x y p l r, b, h => by
    unfold Pl.gen
    split
    · simp
    · split
      · simp
      · split
        · simp
        · split <;> simp
/-- Where another block was written, rows stay. -/
theorem RowsW.apart {α : Type} {w w' : World} {hi n k : Nat} {f : α → List Value} {xs : List α} {v z : Value} (h : RowsW w hi n f xs v) (hz : w.cell? ⟨k, 0, none⟩ = some z) (hf : ∀ x ∈ xs, ∃ y, (f x)[0]? = some y ∧ y ≠ z) (hk : ∀ j, j ≠ k → w'.heap[j]? = w.heap[j]?) : RowsW w' hi n f xs v := by
  obtain ⟨a, cap, rfl, h2⟩ := h
  refine ⟨a, cap, rfl, fun hn => ?_⟩
  obtain ⟨g, rfl, hg, h3⟩ := h2 hn
  refine ⟨g, rfl, hg, fun i c hc j u hu => (World.cell?_of_block (hk g ?_)).trans (h3 i c hc j u hu)⟩
  rintro rfl
  obtain ⟨x, xs', rfl⟩ := List.exists_cons_of_ne_nil hn
  obtain ⟨y, hy, hyz⟩ := hf x (by simp)
  have := h3 0 x rfl 0 y hy
  simp at this
  rw [hz] at this
  injection this with this
  exact hyz this.symm
theorem ProgW.apart {w w' : World} {hi k : Nat} {cols : List Pl.Col} {t : Pl.T} {cv : Value} (h : ProgW w hi cols t cv) (hz : w.cell? ⟨k, 0, none⟩ = some (.slice none 0 0)) (hk : ∀ j, j ≠ k → w'.heap[j]? = w.heap[j]?) : ProgW w' hi cols t cv :=
  RowsW.apart h hz (fun x _ => ⟨_, rfl, by simp⟩) hk
theorem ProgsW.apart {w w' : World} {hi k : Nat} {cols : List Pl.Col} {ps : List (Pl.T × Value)} {v : Value} (h : ProgsW w hi cols ps v) (hf : ∀ p ∈ ps, Pl.Fine cols p.1) (hz : w.cell? ⟨k, 0, none⟩ = some (.slice none 0 0)) (hk : ∀ j, j ≠ k → w'.heap[j]? = w.heap[j]?) : ProgsW w' hi cols ps v := by
  refine ⟨RowsW.apart h.1 hz (fun x hx => ⟨_, rfl, fun e => ?_⟩) hk, fun p hp => ProgW.apart (h.2 p hp) hz hk⟩
  obtain ⟨a, c, e2, h3⟩ := h.2 x hx
  rw [e] at e2
  injection e2 with e3 e4 e5
  exact gen_ne cols x.1 0 (hf x hx).1.1 (List.length_eq_zero_iff.1 e4.symm)
theorem QueryW.apart {w w' : World} {k : Nat} {D : Pl.DB} {lay : List Lay} {s : Pl.St} {is : List Nat} {ps : List Pl.Src} {vs os : List (Pl.T × Value)} {sv vv wv ov : Value} (h : QueryW w D lay s is ps vs os sv vv wv ov) (hz : w.cell? ⟨k, 0, none⟩ = some (.slice none 0 0)) (hs : w'.heap.size = w.heap.size) (hk : ∀ j, j ≠ k → w'.heap[j]? = w.heap[j]?) : QueryW w' D lay s is ps vs os sv vv wv ov := by
  refine ⟨h.is_, h.ons, h.srcL, ?_, fun x hx => ?_, ?_, h.valsE, h.valsF, ?_, h.whrF, ?_, h.ordsE, h.ordsF⟩
  · rw [hs]; exact RowsW.apart h.srcs hz (fun x _ => ⟨_, rfl, by simp⟩) hk
  · rw [hs]; exact (h.srcP x hx).apart hz hk
  · rw [hs]; exact h.vals.apart h.valsF hz hk
  · rw [hs]; exact h.whr.apart hz hk
  · rw [hs]; exact h.ords.apart h.ordsF hz hk
def put4 (w : World) (k : Nat) (a b c d : Value) : World := (((w.setCell ⟨k, 0, none⟩ a).setCell ⟨k, 1, none⟩ b).setCell ⟨k, 2, none⟩ c).setCell ⟨k, 3, none⟩ d
theorem put4_blk {w : World} {k : Nat} {p q r t : Value} {T : TypeId} (h : w.heap[k]? = some (.cells #[p, q, r, t] T)) (a b c d : Value) : (put4 w k a b c d).heap[k]? = some (.cells #[a, b, c, d] T) := by
  unfold put4
  have := blk_set (blk_set (blk_set (blk_set h 0 a) 1 b) 2 c) 3 d
  simpa using this
theorem put4_ne {w : World} {k : Nat} (a b c d : Value) (j : Nat) (hj : j ≠ k) : (put4 w k a b c d).heap[j]? = w.heap[j]? := by
  unfold put4
  rw [Below.heap_setCell _ _ _ _ hj, Below.heap_setCell _ _ _ _ hj, Below.heap_setCell _ _ _ _ hj, Below.heap_setCell _ _ _ _ hj]
theorem put4_below {w w1 : World} (h : Below w.heap.size w w1) (a b c d : Value) : Below w.heap.size w (put4 w1 w.heap.size a b c d) := by
  unfold put4
  exact (((h.setCell (Nat.le_refl _) a).setCell (Nat.le_refl _) b).setCell (Nat.le_refl _) c).setCell (Nat.le_refl _) d
theorem put4_size (w : World) (k : Nat) (a b c d : Value) : (put4 w k a b c d).heap.size = w.heap.size := by unfold put4; simp [size_set]
/-- The end of compileQuery where something is wrong. -/
theorem q_err {w w1 : World} {D : Pl.DB} {lay : List Lay} {s : Pl.St} (hb : Below w.heap.size w w1) {er : Nat} (h : Pl.choose D s = .error er) (her : er = 2 ∨ er = 3) : PostQ w D lay s (.returned (.tuple #[.agg #[.slice none 0 0, .slice none 0 0, .slice none 0 0, .slice none 0 0], .int .i64 (er : Nat)])) (put4 w1 w.heap.size (.slice none 0 0) (.slice none 0 0) (.slice none 0 0) (.slice none 0 0)) :=
  ⟨put4_below hb _ _ _ _, .inl ⟨er, h, her, rfl⟩⟩

set_option maxHeartbeats 8000000 in
set_option maxRecDepth 100000 in
theorem compileQueryM (w : World) (M : Nat → Prop) (b n : Nat) (lay : List Lay) (D : Pl.DB) (s : Pl.St) (ss : List (Pl.It × Value)) (vs : List (Pl.T × Value)) (ks : List Key) (u x v o : Value) (h : DbW w M b lay D) (hs : SelIn w n s ss vs ks u x v o) :
    Calls Tryz.prog 110 #[.pointer (some ⟨b, 0, none⟩), .pointer (some ⟨n, 0, none⟩)] w (PostQ w D lay s) := by
  have c2 := blk_cell hs.blk 2
  have hn := lt_of_blk hs.blk
  simp at c2
  have hB0 : Below w.heap.size w (w.alloc (.cells #[.slice none 0 0, .slice none 0 0, .slice none 0 0, .slice none 0 0] 221)) := (Below.refl _ _).alloc (Nat.le_refl _) _
  have HSrc := hide (compileSourcesM ss x _ M b lay D (h.below hB0) (hs.srcs.below hB0))
  rw [hs.srcsE] at HSrc
  have HS := hide hs
  have HDb := hide h
  have HB0 := hide hB0
  have HBlk0 := hide (blk_new w (.cells #[.slice none 0 0, .slice none 0 0, .slice none 0 0, .slice none 0 0] 221))
  obtain ⟨xa, xc, rfl⟩ := hs.srcs.rows.slice
  clear h hs hB0
  go_enter Tryz.func110, Tryz.ntmps110
  go_wp2_with fail
  refine (unhide HSrc).mono ?_
  rintro e w1 ⟨hb1, hpost⟩
  clear HSrc
  have hB1 : Below w.heap.size w w1 := HB0.out.trans (hb1.mono HB0.out.size)
  have hq1 := below_blk hb1 (by simp) HBlk0.out
  have HB1 := hide hB1
  have HQ1 := hide hq1
  have hz1 := lt_of_blk hq1
  rcases hpost with ⟨er, herr, her, rfl⟩ | ⟨is, ps, tv, sv, cv, hok, hons, hlen, hI, rfl⟩
  · have hne : ((er : Int) != 0) = true := by simp; omega
    have HE := hide (q_err (lay := lay) hB1 (herr.elim (fun h => Pl.choose_1 h) (fun ⟨is, h1, h2⟩ => Pl.choose_2 h1 h2)) her)
    have q0 := blk_cell hq1 0
    have q1 := blk_cell hq1 1
    have q2 := blk_cell hq1 2
    have q3 := blk_cell hq1 3
    have f0 := blk_frozen hq1 0
    have f1 := blk_frozen hq1 1
    have f2 := blk_frozen hq1 2
    have f3 := blk_frozen hq1 3
    simp at q0 q1 q2 q3
    clear herr her hb1 hB1 hq1
    go_wp2_with fail
    refine bodyPost_ret (v := .tuple #[.agg #[.slice none 0 0, .slice none 0 0, .slice none 0 0, .slice none 0 0], .int .i64 (er : Nat)]) ?_ rfl HE.out
    have rb := put4_blk HQ1.out (.slice none 0 0) (.slice none 0 0) (.slice none 0 0) (.slice none 0 0)
    have r0 := blk_cell rb 0
    have r1 := blk_cell rb 1
    have r2 := blk_cell rb 2
    have r3 := blk_cell rb 3
    simp [put4] at r0 r1 r2 r3
    simp [results, Tryz.results110, go_sem, r0, r1, r2, r3]
  · obtain ⟨his, hisd⟩ := Pl.srcsGo_len hok
    have hcols : RowsW w1 w1.heap.size 3 colC (Pl.scopes D is s.sources) cv := by
      have := own_rows (f := colC) (fun _ => rfl) hI.cols (Nat.le_refl _)
      rw [colsAt, List.take_length, his, List.take_length] at this
      exact this
    have hSL : SrcL D lay [] is s.sources ps := srcL_of hlen his (fun j x hx => by simpa [colsAt] using hI.fits j x hx)
    have hsrcs : RowsW w1 w1.heap.size 3 srcC ps sv := own_rows (f := srcC) (fun _ => rfl) hI.srcs (Nat.le_refl _)
    have hsrcP : ∀ x ∈ ps, ProgW w1 w1.heap.size x.cols x.c x.cv := fun x hx => (hI.progs x hx).prog (fun k hk => hk.1)
    obtain ⟨sva, svc, hsv⟩ := own_slice1 hI.srcs
    obtain ⟨cva, cvm, cvc, rfl⟩ := own_slice hI.cols
    subst hsv
    have hl15 : (Pl.scopes D is s.sources).length ≤ 600 := by
      have h1 := colsAt_len HDb.out.ok is s.sources hisd
      have h2 := HS.out.srcs.len
      have h3 := congrArg List.length HS.out.srcsE
      simp at h3
      omega
    generalize hcs : Pl.scopes D is s.sources = cols at *
    have hS1 := HS.out.below hB1
    have HVal := hide (valsM hS1 cols _ hcols (by omega))
    have HCols := hide hcols
    have HSL := hide hSL
    have HSrcs := hide hsrcs
    have HSrcP := hide hsrcP
    have HOk := hide hok
    have HOns := hide hons
    have HIs := hide (And.intro his hisd)
    have HCs := hide hcs
    clear hcols hSL hsrcs hsrcP hI hok hons his hisd hcs hS1 hb1 hB1 hq1 hlen
    go_wp2_with fail
    refine (unhide HVal).mono ?_
    rintro e w2 ⟨hb2, vv0, vs0, rfl, hvs0, htr2⟩
    have hB2 : Below w.heap.size w w2 := HB1.out.trans (hb2.mono HB1.out.size)
    have hq2 := below_blk hb2 hz1 HQ1.out
    have HB2 := hide hB2
    have HQ2 := hide hq2
    have hz2 := lt_of_blk hq2
    have hS2 := HS.out.below hB2
    obtain ⟨v0a, v0c, rfl⟩ := htr2.1.slice
    have hok0 : ∀ p ∈ vs0, Pl.okT p.1 := fun p hp => vals_ok HS.out.ok HS.out.kind cols p.1 (by rw [← hvs0]; exact List.mem_map_of_mem hp)
    have hl0 : vs0.length ≤ 1000 := by
      have h1 := vals_len HS.out.ok cols hl15
      have h2 := congrArg List.length hvs0
      simp at h2
      omega
    have HCa := hide (compileAllM cols vs0 _ (.slice cva cvm cvc) w2 hS2.srcs.rules hS2.srcs.glob htr2 hok0 (HCols.out.below hb2) (by omega) hl0)
    have HVs0 := hide hvs0
    have HOk0 := hide hok0
    have Hb2 := hide hb2
    clear HVal hb2 hB2 hq2 hS2 hvs0 htr2 hok0
    go_wp2_with fail
    refine (unhide HCa).mono ?_
    rintro e w3 ⟨hb3, hpost⟩
    have hB3 : Below w.heap.size w w3 := HB2.out.trans (hb3.mono HB2.out.size)
    have hq3 := below_blk hb3 hz2 HQ2.out
    have HB3 := hide hB3
    have HQ3 := hide hq3
    have hz3 := lt_of_blk hq3
    have Hb3 := hide hb3
    clear HCa
    rcases hpost with ⟨er, herr, rfl⟩ | ⟨hno, vs1, vv1, hvs1, rfl, hprg3⟩
    · have her := tcAll_err herr
      have hne : ((er : Int) != 0) = true := by simp; omega
      have HE := hide (q_err (lay := lay) hB3 (Pl.choose_3 HOk.out HOns.out (by rw [HCs.out, ← HVs0.out]; exact herr)) her)
      have q0 := blk_cell hq3 0
      have q1 := blk_cell hq3 1
      have q2 := blk_cell hq3 2
      have q3 := blk_cell hq3 3
      have f0 := blk_frozen hq3 0
      have f1 := blk_frozen hq3 1
      have f2 := blk_frozen hq3 2
      have f3 := blk_frozen hq3 3
      simp at q0 q1 q2 q3
      clear herr her hb3 hB3 hq3
      go_wp2_with fail
      refine bodyPost_ret (v := .tuple #[.agg #[.slice none 0 0, .slice none 0 0, .slice none 0 0, .slice none 0 0], .int .i64 (er : Nat)]) ?_ rfl HE.out
      have rb := put4_blk HQ3.out (.slice none 0 0) (.slice none 0 0) (.slice none 0 0) (.slice none 0 0)
      have r0 := blk_cell rb 0
      have r1 := blk_cell rb 1
      have r2 := blk_cell rb 2
      have r3 := blk_cell rb 3
      simp [put4] at r0 r1 r2 r3
      simp [results, Tryz.results110, go_sem, r0, r1, r2, r3]
    · have hS3 := HS.out.below hB3
      have d3 := blk_cell hS3.blk 3
      simp at d3
      have hn3 := lt_of_blk hS3.blk
      obtain ⟨va, hva⟩ := hS3.whr.ptr
      have HCond := hide (conditionM s.whr cols v (.slice cva cvm cvc) w3 ⟨hS3.srcs.rules, hS3.srcs.glob, hS3.whr, hS3.ok.whr, (HCols.out.below Hb2.out).below hb3, by omega⟩)
      rw [hva] at HCond d3
      obtain ⟨v1a, v1c, rfl⟩ := hprg3.1.slice
      have HNo := hide hno
      have HVs1 := hide hvs1
      have HPr3 := hide hprg3
      clear hb3 hB3 hq3 hS3 hno hvs1 hprg3 hva
      go_wp2_with fail
      refine (unhide HCond).mono ?_
      rintro e w4 ⟨hb4, hpost⟩
      have hB4 : Below w.heap.size w w4 := HB3.out.trans (hb4.mono HB3.out.size)
      have hq4 := below_blk hb4 hz3 HQ3.out
      have Hb4 := hide hb4
      have hz4 := lt_of_blk hq4
      clear HCond
      rcases hpost with ⟨er, herr, rfl⟩ | ⟨wv, htc, rfl, hprog4⟩
      · have her := tcAs_err herr
        have hne : ((er : Int) != 0) = true := by simp; omega
        have HE : Hid (PostQ w D lay s (.returned (.tuple #[.agg #[.slice none 0 0, .slice none 0 0, .slice none 0 0, .slice none 0 0], .int .i64 (er : Nat)])) ((put4 w4 w.heap.size (.slice none 0 0) (.slice none 0 0) (.slice none 0 0) (.slice none 0 0)).alloc (.cells #[.slice none 0 0] 204))) :=
          ⟨(put4_below hB4 (.slice none 0 0) (.slice none 0 0) (.slice none 0 0) (.slice none 0 0)).alloc (by rw [put4_size]; omega) _, .inl ⟨er, Pl.choose_4 HOk.out HOns.out (by rw [HCs.out, ← HVs0.out]; exact HNo.out) (by rw [HCs.out]; exact herr), her, rfl⟩⟩
        have q0 := blk_cell hq4 0
        have q1 := blk_cell hq4 1
        have q2 := blk_cell hq4 2
        have q3 := blk_cell hq4 3
        have f0 := blk_frozen hq4 0
        have f1 := blk_frozen hq4 1
        have f2 := blk_frozen hq4 2
        have f3 := blk_frozen hq4 3
        simp at q0 q1 q2 q3
        have HQ4 := hide hq4
        clear herr her hb4 hB4 hq4
        go_wp2_with fail
        refine bodyPost_ret (v := .tuple #[.agg #[.slice none 0 0, .slice none 0 0, .slice none 0 0, .slice none 0 0], .int .i64 (er : Nat)]) ?_ rfl HE.out
        have rb := blk_alloc (put4_blk HQ4.out (.slice none 0 0) (.slice none 0 0) (.slice none 0 0) (.slice none 0 0)) (.cells #[.slice none 0 0] 204)
        have r0 := blk_cell rb 0
        have r1 := blk_cell rb 1
        have r2 := blk_cell rb 2
        have r3 := blk_cell rb 3
        simp [put4] at r0 r1 r2 r3
        simp [results, Tryz.results110, go_sem, r0, r1, r2, r3]
      · obtain ⟨wva, wvn, wvc, rfl⟩ := hprog4.slice
        have hP4 : ProgW w4 w4.heap.size cols (Pl.cond s.whr) (.slice wva wvn wvc) := hprog4.prog (fun k hk => hk.2)
        have hb5 : Below w4.heap.size w4 (w4.alloc (.cells #[.slice wva wvn wvc] 204)) := (Below.refl _ _).alloc (Nat.le_refl _) _
        have hx5 := blk_new w4 (.cells #[.slice wva wvn wvc] 204)
        have HX5 := hide hx5
        have HP4 := hide hP4
        have HTc := hide htc
        have HB4 := hide hB4
        have HQ4 := hide hq4
        generalize hW5 : w4.alloc (.cells #[.slice wva wvn wvc] 204) = w5 at *
        have hB5 : Below w.heap.size w w5 := HB4.out.trans (hb5.mono HB4.out.size)
        have hS5 := HS.out.below hB5
        have HOv := hide (orderValuesM ks o w5 hS5.keys (by have h1 := hS5.ok.klen; have h2 := congrArg List.length hS5.keysE; simp at h2; omega))
        have d4 := blk_cell (HS.out.below HB4.out).blk 4
        simp at d4
        have hn4 := lt_of_blk (HS.out.below HB4.out).blk
        obtain ⟨oa, oc, rfl⟩ := hS5.keys.1.slice
        have Hb5 := hide hb5
        subst hW5
        clear hb4 hB4 hq4 hprog4 hP4 htc hb5 hx5 hB5 hS5
        go_wp2_with fail
        refine (unhide HOv).mono ?_
        rintro e w6 ⟨hb6, ov0, os0, rfl, hos0, htr6⟩
        have hz5 : w4.heap.size < w6.heap.size := by have := hb6.size; simp at this; omega
        have hB6 : Below w.heap.size w w6 := (HB4.out.trans (Hb5.out.mono HB4.out.size)).trans (hb6.mono (by have := HB4.out.size; simp; omega))
        have hb46 : Below w4.heap.size w4 w6 := Hb5.out.trans (hb6.mono Hb5.out.size)
        have hq6 := below_blk hb46 hz4 HQ4.out
        have hx6 := below_blk hb6 (by simp) HX5.out
        have HB6 := hide hB6
        have HQ6 := hide hq6
        have HX6 := hide hx6
        have hz6 := lt_of_blk hq6
        have hS6 := HS.out.below hB6
        obtain ⟨o0a, o0c, rfl⟩ := htr6.1.slice
        have hok6 : ∀ p ∈ os0, Pl.okT p.1 := fun p hp => by
          have hm : p.1 ∈ ks.map (·.1) := by rw [← hos0]; exact List.mem_map_of_mem hp
          rw [HS.out.keysE] at hm
          obtain ⟨i, hi, h1⟩ := List.mem_map.1 hm
          rw [← h1]; exact HS.out.ok.keys i hi
        have hl6 : os0.length ≤ 1000 := by
          have h1 := HS.out.ok.klen
          have h2 := congrArg List.length HS.out.keysE
          have h3 := congrArg List.length hos0
          simp at h2 h3
          omega
        have hB16 : Below w1.heap.size w1 w6 := ((Hb2.out.trans (Hb3.out.mono Hb2.out.size)).trans (Hb4.out.mono (by have := Hb2.out.size; have := Hb3.out.size; omega))).trans (hb46.mono (by have := Hb2.out.size; have := Hb3.out.size; have := Hb4.out.size; omega))
        have hB36 : Below w3.heap.size w3 w6 := Hb4.out.trans (hb46.mono Hb4.out.size)
        have HCa := hide (compileAllM cols os0 _ (.slice cva cvm cvc) w6 hS6.srcs.rules hS6.srcs.glob htr6 hok6 (HCols.out.below hB16) (by omega) hl6)
        have HOs0 := hide hos0
        have HOk6 := hide hok6
        have Hb16 := hide hB16
        have Hb36 := hide hB36
        have Hb46 := hide hb46
        clear HOv hb6 hB6 hq6 hx6 hS6 hos0 htr6 hok6 hB16 hB36 hb46
        go_wp2_with fail
        refine (unhide HCa).mono ?_
        rintro e w7 ⟨hb7, hpost⟩
        have hB7 : Below w.heap.size w w7 := HB6.out.trans (hb7.mono HB6.out.size)
        have hq7 := below_blk hb7 hz6 HQ6.out
        have hx7 := below_blk hb7 hz5 HX6.out
        have HQ7 := hide hq7
        have hz7 := lt_of_blk hq7
        have hz47 := lt_of_blk hx7
        have x7 := blk_cell hx7 0
        simp at x7
        have q0 := blk_cell hq7 0
        have q1 := blk_cell hq7 1
        have q2 := blk_cell hq7 2
        have q3 := blk_cell hq7 3
        have f0 := blk_frozen hq7 0
        have f1 := blk_frozen hq7 1
        have f2 := blk_frozen hq7 2
        have f3 := blk_frozen hq7 3
        simp at q0 q1 q2 q3
        clear HCa
        rcases hpost with ⟨er, herr, rfl⟩ | ⟨hno, os1, ov1, hos1, rfl, hprg7⟩
        · have her := tcAll_err herr
          have hne : ((er : Int) != 0) = true := by simp; omega
          have HE := hide (q_err (lay := lay) hB7 (Pl.choose_5 HOk.out HOns.out (by rw [HCs.out, ← HVs0.out]; exact HNo.out) (by rw [HCs.out]; exact HTc.out) (by rw [HCs.out, ← HS.out.keysE, ← HOs0.out]; exact herr)) her)
          clear herr her hb7 hB7 hq7 hx7
          go_wp2_with fail
          refine bodyPost_ret (v := .tuple #[.agg #[.slice none 0 0, .slice none 0 0, .slice none 0 0, .slice none 0 0], .int .i64 (er : Nat)]) ?_ rfl HE.out
          have rb := put4_blk HQ7.out (.slice none 0 0) (.slice none 0 0) (.slice none 0 0) (.slice none 0 0)
          have r0 := blk_cell rb 0
          have r1 := blk_cell rb 1
          have r2 := blk_cell rb 2
          have r3 := blk_cell rb 3
          simp [put4] at r0 r1 r2 r3
          simp [results, Tryz.results110, go_sem, r0, r1, r2, r3]
        · obtain ⟨o1a, o1c, hov1⟩ := hprg7.1.slice
          have hfv : ∀ p ∈ vs1, Pl.Fine cols p.1 := fun p hp => by
            have hm : p.1 ∈ vs0.map (·.1) := by rw [← HVs1.out]; exact List.mem_map_of_mem hp
            obtain ⟨x, hx, h1⟩ := List.mem_map.1 hm
            exact ⟨by rw [← h1]; exact HOk0.out x hx, Pl.tcAll_ok HNo.out _ hm⟩
          have hfo : ∀ p ∈ os1, Pl.Fine cols p.1 := fun p hp => by
            have hm : p.1 ∈ os0.map (·.1) := by rw [← hos1]; exact List.mem_map_of_mem hp
            obtain ⟨x, hx, h1⟩ := List.mem_map.1 hm
            exact ⟨by rw [← h1]; exact HOk6.out x hx, Pl.tcAll_ok hno _ hm⟩
          have hfw : Pl.Fine cols (Pl.cond s.whr) := by
            obtain ⟨ty, h1, _⟩ := Pl.tcAs_ok HTc.out
            exact ⟨Pl.cond_ok HS.out.ok.whr, ty, h1⟩
          have hB17 := Hb16.out.trans (hb7.mono Hb16.out.size)
          have hQ7 : QueryW w7 D lay s is ps vs1 os1 (.slice sva ps.length svc) (.slice v1a vs1.length v1c) (.slice wva wvn wvc) ov1 := by
            refine ⟨HIs.out, HOns.out, HSL.out, HSrcs.out.below hB17, fun x hx => (HSrcP.out x hx).below hB17, ?_, ?_, ?_, ?_, ?_, ?_, ?_, ?_⟩
            · rw [HCs.out]; exact (HPr3.out.below Hb36.out).below hb7
            · rw [HCs.out, HVs1.out, HVs0.out]
            · rw [HCs.out]; exact hfv
            · rw [HCs.out]; exact (HP4.out.below Hb46.out).below hb7
            · rw [HCs.out]; exact hfw
            · rw [HCs.out]; exact hprg7
            · rw [hos1, HOs0.out, HS.out.keysE]
            · rw [HCs.out]; exact hfo
          have HE : Hid (PostQ w D lay s (.returned (.tuple #[.agg #[.slice sva ps.length svc, .slice v1a vs1.length v1c, .slice wva wvn wvc, ov1], .int .i64 0])) (put4 w7 w.heap.size (.slice sva ps.length svc) (.slice v1a vs1.length v1c) (.slice wva wvn wvc) ov1)) :=
            ⟨put4_below hB7 _ _ _ _, .inr ⟨is, ps, vs1, os1, _, _, _, _, Pl.choose_6 HOk.out HOns.out (by rw [HCs.out, ← HVs0.out]; exact HNo.out) (by rw [HCs.out]; exact HTc.out) (by rw [HCs.out, ← HS.out.keysE, ← HOs0.out]; exact hno), rfl, hQ7.apart q0 (put4_size _ _ _ _ _ _) (put4_ne _ _ _ _)⟩⟩
          rw [hov1] at HE
          rw [hov1]
          clear hno hos1 hprg7 hfv hfo hfw hB17 hQ7 hb7 hB7 hq7 hx7 hov1
          go_wp2_with fail
          refine bodyPost_ret (v := .tuple #[.agg #[.slice sva ps.length svc, .slice v1a vs1.length v1c, .slice wva wvn wvc, .slice o1a os1.length o1c], .int .i64 0]) ?_ rfl HE.out
          have rb := put4_blk HQ7.out (.slice sva ps.length svc) (.slice v1a vs1.length v1c) (.slice wva wvn wvc) (.slice o1a os1.length o1c)
          have r0 := blk_cell rb 0
          have r1 := blk_cell rb 1
          have r2 := blk_cell rb 2
          have r3 := blk_cell rb 3
          simp [put4] at r0 r1 r2 r3
          simp [results, Tryz.results110, go_sem, r0, r1, r2, r3]
end Go.Proofs.YtojdpjpldokjmaaGreatDoor
