/- The keeps' own: numbers and conditions made of raw numbers. -/
import Derived.Test.YtojdpjpldokjmaaGreatDoorW09
import Derived.Test.YtojdpjpldokjmaaGreatDoorW10
set_option maxHeartbeats 16000000
set_option maxRecDepth 100000
namespace Go.Proofs.YtojdpjpldokjmaaGreatDoor
open Go.RowKit Go.Deep
set_option linter.unusedSimpArgs false
set_option linter.unusedVariables false
theorem mod_nat (k n:Nat):((k:Int) % (n:Int)).toNat = k % n := by rw [<- Int.natCast_emod,Int.toNat_natCast]
theorem pickK_N (c:Int) (n:Nat):Pl.pickK c n = Pl.pickN c n := by
 unfold Pl.pickK Pl.pickN
 split
 · obtain ⟨k,hk⟩:∃ k:Nat,-(c + 1) = (k:Int) := ⟨(-(c + 1)).toNat,by omega⟩
   rw [hk,mod_nat,Int.toNat_natCast]
 · obtain ⟨k,rfl⟩:∃ k:Nat,c = (k:Int) := ⟨c.toNat,by omega⟩
   rw [mod_nat,Int.toNat_natCast]
theorem add_block (p:Addr) (i:Nat):(p.add i).block = p.block := by
 unfold Addr.add
 split <;> rfl
def IntsAt (w:World) (raw:List Int) (v:Value):Prop := ∃ a c,v = .slice a raw.length c /\ (raw ≠ [] -> ∃ p:Addr,a = some p /\ p.block < w.heap.size /\ ∀ (i:Nat) x,raw[i]? = some x -> w.cell? (p.add i) = some (.int .i64 x))
theorem IntsAt.below {w w':World} {raw:List Int} {v:Value} (h:IntsAt w raw v) (hb:Below w.heap.size w w'):IntsAt w' raw v := by
 obtain ⟨a,c,h1,h2⟩ := h
 refine ⟨a,c,h1,fun hn=>?_⟩
 obtain ⟨p,h3,h4,h5⟩ := h2 hn
 exact ⟨p,h3,Nat.lt_of_lt_of_le h4 hb.size,fun i x hx=>by rw [hb.cell (by rw [add_block]; exact h4)]; exact h5 i x hx⟩
theorem atM (raw:List Int) (v:Value) (i:Nat) (w:World) (h:IntsAt w raw v) (hr:∀ x ∈ raw,Pl.in64 x) (hi:i <= 1000) :
   Calls Tryz.prog 43 #[v,.int .i64 (i:Nat)] w fun e w' => e = .returned (.int .i64 (Pl.atN raw i:Nat)) /\ w' = w := by
 obtain ⟨a,c,rfl,h2⟩ := h
 by_cases hl:i < raw.length
 · obtain ⟨p,rfl,hp,hc⟩ := h2 (by rintro rfl; simp at hl)
   have hx:raw[i]? = some raw[i] := List.getElem?_eq_getElem hl
   have hcx := hc i _ hx
   have HC := hide (pickM raw[i] 1099511627776 w (hr _ (List.getElem_mem hl)) (by omega) (by omega))
   have HE:Hid (Pl.atN raw i = Pl.pickK raw[i] 1099511627776) := by unfold Hid Pl.atN; rw [hx,pickK_N]
   generalize Pl.atN raw i = k at *
   generalize raw[i] = x at *
   clear hc h2 hx hr
   go_enter Tryz.func43,Tryz.ntmps43
   go_wp2_with fail
   refine (unhide HC).mono ?_
   rintro e w1 ⟨rfl,h1⟩
   rw [h1]
   clear h1 w1
   go_wp2_with fail
   go_ret
   exact ⟨ret_int (by rw [HE.out]),rfl⟩
 · have HE:Hid (Pl.atN raw i = 0) := by unfold Hid Pl.atN; rw [List.getElem?_eq_none (by omega)]
   rw [HE.out]
   clear h2 hr
   go_enter Tryz.func43,Tryz.ntmps43
   go_wp2_with fail
   go_ret
   exact ⟨rfl,rfl⟩
theorem str3 (a b c d e:List UInt8):(((({ data := a.toArray }:ByteArray) ++ { data := b.toArray }) ++ { data := c.toArray }) ++ { data := d.toArray }) ++ { data := e.toArray } = ⟨(a ++ b ++ c ++ d ++ e).toArray⟩ := by
 rw [ByteArray.mk_append_mk,ByteArray.mk_append_mk,ByteArray.mk_append_mk,ByteArray.mk_append_mk]
def opX (k:Nat):List UInt8 := match k with | 0=>[32,43,32] | 1=>[32,45,32] | _=>[32,42,32]
theorem opN_x (k:Nat) (a b:Pl.Pc):(Pl.opN k a b).x = [40] ++ a.x ++ opX k ++ b.x ++ [41] := by
 unfold Pl.opN opX
 split <;> simp [Pl.pcTwo]
theorem opX_at (k:Nat) (hk:k < 3):[[32,43,32],[32,45,32],[32,42,32]][k]? = some (opX k) := by
 match k,hk with
 | 0,_=>rfl
 | 1,_=>rfl
 | 2,_=>rfl
 | k + 3,hk=>omega
theorem opX_len (k:Nat):(opX k).length <= 3 := by
 unfold opX
 split <;> simp
theorem leafN_x (k:Nat) (hk:k < 7):[[97],[48],[49],[50],[78,85,76,76],[40,45,49,41],[116,46,97]][k]? = some (Pl.leafN k).x := by
 match k,hk with
 | 0,_=>rfl
 | 1,_=>rfl
 | 2,_=>rfl
 | 3,_=>rfl
 | 4,_=>rfl
 | 5,_=>rfl
 | 6,_=>rfl
 | k + 7,hk=>omega
theorem atN_lt (raw:List Int) (i:Nat):Pl.atN raw i < 1099511627776 := by
 unfold Pl.atN
 split
 · exact Pl.pickN_lt _ (by omega)
 · omega
def strsO (l:List (List UInt8)):Obj := .cells (l.map fun x=>Value.string ⟨x.toArray⟩).toArray 9
theorem strs_cell (w:World) (l:List (List UInt8)) {k:Nat} {x:List UInt8} (h:l[k]? = some x):(w.alloc (strsO l)).cell? ⟨w.heap.size,k,none⟩ = some (.string ⟨x.toArray⟩) := by
 have := blk_cell (blk_new w (strsO l)) k
 rw [this]
 simp [h]
theorem numM (raw:List Int) (hr:∀ x ∈ raw,Pl.in64 x):∀ (d i:Nat) (v:Value) (w:World),d <= 2 -> i + 2 * d <= 900 -> IntsAt w raw v ->
   Calls Tryz.prog 44 #[v,.int .i64 (i:Nat),.int .i64 (d:Nat)] w fun e w' => e = .returned (.string ⟨(Pl.numN raw d i).x.toArray⟩) /\ Below w.heap.size w w'
 | 0,i,v,w,_,hi,h=>by
   have HA := hide (atM raw v i w h hr (by omega))
   obtain ⟨a,c,rfl,_⟩ := h
   have hk40 := atN_lt raw i
   have hcell := strs_cell w _ (leafN_x (Pl.atN raw i / 3 % 7) (by omega))
   have HX:Hid ((Pl.leafN (Pl.atN raw i / 3 % 7)).x = (Pl.numN raw 0 i).x) := rfl
   generalize (Pl.numN raw 0 i).x = xs at *
   generalize (Pl.leafN (Pl.atN raw i / 3 % 7)).x = ys at *
   generalize Pl.atN raw i = k at *
   simp only [strsO,List.map_cons,List.map_nil] at hcell
   have HB:Hid (∀ o,Below w.heap.size w (w.alloc o)) := fun o=>(Below.refl _ _).alloc (Nat.le_refl _) o
   go_enter Tryz.func44,Tryz.ntmps44
   go_wp2_with fail
   refine (unhide HA).mono ?_
   rintro e w1 ⟨rfl,h1⟩
   rw [h1]
   clear h1 w1 HA
   go_wp2_with fail
   go_ret
   exact ⟨ret_str (by rw [HX.out]),HB.out _⟩
 | d + 1,i,v,w,hd,hi,h=>by
   have HA := hide (atM raw v i w h hr (by omega))
   have hk40 := atN_lt raw i
   by_cases hk3:Pl.atN raw i % 3 = 0
   · have hcell := strs_cell w _ (leafN_x (Pl.atN raw i / 3 % 7) (by omega))
     have HX:Hid ((Pl.leafN (Pl.atN raw i / 3 % 7)).x = (Pl.numN raw (d + 1) i).x) := by unfold Hid; rw [Pl.numN,if_pos hk3]
     obtain ⟨a,c,rfl,_⟩ := h
     generalize (Pl.numN raw (d + 1) i).x = xs at *
     generalize (Pl.leafN (Pl.atN raw i / 3 % 7)).x = ys at *
     generalize Pl.atN raw i = k at *
     simp only [strsO,List.map_cons,List.map_nil] at hcell
     have g0:(((d + 1:Nat):Int) == 0) = false := by simp; omega
     have g3:((k:Int) % 3 == 0) = true := by simp; omega
     have HB:Hid (∀ o,Below w.heap.size w (w.alloc o)) := fun o=>(Below.refl _ _).alloc (Nat.le_refl _) o
     clear hk3
     go_enter Tryz.func44,Tryz.ntmps44
     go_wp2_with fail
     refine (unhide HA).mono ?_
     rintro e w1 ⟨rfl,h1⟩
     rw [h1]
     clear h1 w1 HA
     go_wp2_with fail
     go_ret
     exact ⟨ret_str (by rw [HX.out]),HB.out _⟩
   · have HN1 := hide (numM raw hr d (i + 1) v w (by omega) (by omega) h)
     have HN2:Hid (∀ W,Below w.heap.size w W -> _) := fun W hW=>numM raw hr d (i + 2) v W (by omega) (by omega) (h.below hW)
     have l1:(Pl.numN raw d (i + 1)).x.length <= 31 := Nat.le_trans (Pl.numN_len raw d (i + 1) (by omega)).1 (by split <;> (try split) <;> omega)
     have l2:(Pl.numN raw d (i + 2)).x.length <= 31 := Nat.le_trans (Pl.numN_len raw d (i + 2) (by omega)).1 (by split <;> (try split) <;> omega)
     have hop:[[32,43,32],[32,45,32],[32,42,32]][Pl.atN raw i / 3 % 3]? = some (opX (Pl.atN raw i / 3 % 3)) := opX_at _ (by omega)
     have HX:Hid ([40] ++ (Pl.numN raw d (i + 1)).x ++ opX (Pl.atN raw i / 3 % 3) ++ (Pl.numN raw d (i + 2)).x ++ [41] = (Pl.numN raw (d + 1) i).x) := by unfold Hid; rw [Pl.numN,if_neg hk3,opN_x]
     have hol:(opX (Pl.atN raw i / 3 % 3)).length <= 3 := opX_len _
     obtain ⟨a,c,rfl,_⟩ := h
     generalize (Pl.numN raw (d + 1) i).x = xs at *
     generalize (Pl.numN raw d (i + 1)).x = x1 at *
     generalize (Pl.numN raw d (i + 2)).x = x2 at *
     have HOp:Hid (∀ W:World,_) := fun W=>strs_cell W _ hop
     generalize opX (Pl.atN raw i / 3 % 3) = op at *
     generalize Pl.atN raw i = k at *
     simp only [strsO,List.map_cons,List.map_nil] at HOp
     have g0:(((d + 1:Nat):Int) == 0) = false := by simp; omega
     have g3:((k:Int) % 3 == 0) = false := by simp; omega
     clear hk3 hop
     go_enter Tryz.func44,Tryz.ntmps44
     go_wp2_with fail
     refine (unhide HA).mono ?_
     rintro e w1 ⟨rfl,h1⟩
     rw [h1]
     clear h1 w1 HA
     go_wp2_with fail
     refine (unhide HN1).mono ?_
     rintro e w1 ⟨rfl,hb1⟩
     have HC2 := hide ((unhide HN2) w1 hb1)
     have HB1 := hide hb1
     clear hb1 HN1 HN2
     go_wp2_with fail
     refine (unhide HC2).mono ?_
     rintro e w2 ⟨rfl,hb2⟩
     have HB2:Hid (Below w.heap.size w w2) := HB1.out.trans (hb2.mono HB1.out.size)
     have hcell := HOp.out w2
     have HE:Hid (∀ o,Below w.heap.size w (w2.alloc o)) := fun o=>HB2.out.alloc HB2.out.size o
     clear hb2 HC2 HOp
     go_wp2_with fail
     go_ret
     exact ⟨ret_str (by rw [<- HX.out]; exact str3 [40] x1 op x2 [41]),HE.out _⟩
theorem leafC_x (k:Nat) (hk:k < 9):[[99],[84,82,85,69],[70,65,76,83,69],[78,85,76,76],[40,97,32,61,32,49,41],[40,98,32,61,32,39,120,39,41],[40,97,32,60,32,50,41],[40,98,32,73,83,32,78,85,76,76,41],[116,46,99]][k]? = some (Pl.leafC k).x := by
 match k,hk with
 | 0,_=>rfl
 | 1,_=>rfl
 | 2,_=>rfl
 | 3,_=>rfl
 | 4,_=>rfl
 | 5,_=>rfl
 | 6,_=>rfl
 | 7,_=>rfl
 | 8,_=>rfl
 | k + 9,hk=>omega
def cmpX (k:Nat):List UInt8 := match k with | 0=>[32,61,32] | 1=>[32,60,62,32] | 2=>[32,60,32] | 3=>[32,60,61,32] | 4=>[32,62,32] | _=>[32,62,61,32]
theorem cmpC_x (k:Nat) (a b:Pl.Pc):(Pl.cmpC k a b).x = [40] ++ a.x ++ cmpX k ++ b.x ++ [41] := by
 unfold Pl.cmpC cmpX
 split <;> simp [Pl.pcTwo]
theorem cmpX_at3 (k:Nat) (hk:k < 3):[[32,61,32],[32,60,62,32],[32,60,32]][k]? = some (cmpX k) := by
 match k,hk with
 | 0,_=>rfl
 | 1,_=>rfl
 | 2,_=>rfl
 | k + 3,hk=>omega
theorem cmpX_at6 (k:Nat) (hk:k < 6):[[32,61,32],[32,60,62,32],[32,60,32],[32,60,61,32],[32,62,32],[32,62,61,32]][k]? = some (cmpX k) := by
 match k,hk with
 | 0,_=>rfl
 | 1,_=>rfl
 | 2,_=>rfl
 | 3,_=>rfl
 | 4,_=>rfl
 | 5,_=>rfl
 | k + 6,hk=>omega
theorem cmpX_len (k:Nat):(cmpX k).length <= 4 := by
 unfold cmpX
 split <;> simp
theorem cat3 (a b c:List UInt8):((({ data := a.toArray }:ByteArray) ++ { data := b.toArray }) ++ { data := c.toArray }) = ⟨(a ++ b ++ c).toArray⟩ := by
 rw [ByteArray.mk_append_mk,ByteArray.mk_append_mk]
theorem cond_0 {raw:List Int} {d i:Nat} (h:Pl.atN raw i % 6 = 0):[40,78,79,84,32] ++ (Pl.condN raw d (i + 1)).x ++ [41] = (Pl.condN raw (d + 1) i).x := by
 simp [Pl.condN,h,Pl.pcNot]
theorem cond_1 {raw:List Int} {d i:Nat} (h:Pl.atN raw i % 6 = 1):[40] ++ (Pl.condN raw d (i + 1)).x ++ [32,65,78,68,32] ++ (Pl.condN raw d (i + 3)).x ++ [41] = (Pl.condN raw (d + 1) i).x := by
 simp [Pl.condN,h,Pl.pcTwo]
theorem cond_2 {raw:List Int} {d i:Nat} (h:Pl.atN raw i % 6 = 2):[40] ++ (Pl.condN raw d (i + 1)).x ++ [32,79,82,32] ++ (Pl.condN raw d (i + 3)).x ++ [41] = (Pl.condN raw (d + 1) i).x := by
 simp [Pl.condN,h,Pl.pcTwo]
theorem cond_3 {raw:List Int} {d i:Nat} (h:Pl.atN raw i % 6 = 3):[40] ++ (Pl.condN raw d (i + 1)).x ++ [32,73,83,32,78,85,76,76,41] = (Pl.condN raw (d + 1) i).x := by
 simp [Pl.condN,h,Pl.pcIs]
theorem cond_4 {raw:List Int} {d i:Nat} (h:Pl.atN raw i % 6 = 4):[40] ++ (Pl.condN raw d (i + 1)).x ++ cmpX (Pl.atN raw i / 6 % 3) ++ (Pl.condN raw d (i + 3)).x ++ [41] = (Pl.condN raw (d + 1) i).x := by
 rw [<- cmpC_x]
 simp [Pl.condN,h]
theorem cond_5 {raw:List Int} {d i:Nat} (h:Pl.atN raw i % 6 = 5):[40] ++ (Pl.numN raw 2 (i + 1)).x ++ cmpX (Pl.atN raw i / 6 % 6) ++ (Pl.numN raw 2 (i + 2)).x ++ [41] = (Pl.condN raw (d + 1) i).x := by
 rw [<- cmpC_x]
 simp [Pl.condN,h]
theorem condN_l (raw:List Int) (d i:Nat) (hd:d <= 2):(Pl.condN raw d i).x.length <= 150 := Nat.le_trans (Pl.condN_len raw d i hd).1 (by split <;> (try split) <;> omega)
theorem numN_l (raw:List Int) (d i:Nat) (hd:d <= 2):(Pl.numN raw d i).x.length <= 31 := Nat.le_trans (Pl.numN_len raw d i hd).1 (by split <;> (try split) <;> omega)
theorem condM (raw:List Int) (hr:∀ x ∈ raw,Pl.in64 x):∀ (d i:Nat) (v:Value) (w:World),d <= 2 -> i + 3 * d <= 800 -> IntsAt w raw v ->
   Calls Tryz.prog 28 #[v,.int .i64 (i:Nat),.int .i64 (d:Nat)] w fun e w' => e = .returned (.string ⟨(Pl.condN raw d i).x.toArray⟩) /\ Below w.heap.size w w'
 | 0,i,v,w,_,hi,h=>by
   have HA := hide (atM raw v i w h hr (by omega))
   obtain ⟨a,c,rfl,_⟩ := h
   have hk40 := atN_lt raw i
   have hcell := strs_cell w _ (leafC_x (Pl.atN raw i % 9) (by omega))
   have HX:Hid ((Pl.leafC (Pl.atN raw i % 9)).x = (Pl.condN raw 0 i).x) := rfl
   generalize (Pl.condN raw 0 i).x = xs at *
   generalize (Pl.leafC (Pl.atN raw i % 9)).x = ys at *
   generalize Pl.atN raw i = k at *
   simp only [strsO,List.map_cons,List.map_nil] at hcell
   have HB:Hid (∀ o,Below w.heap.size w (w.alloc o)) := fun o=>(Below.refl _ _).alloc (Nat.le_refl _) o
   go_enter Tryz.func28,Tryz.ntmps28
   go_wp2_with fail
   refine (unhide HA).mono ?_
   rintro e w1 ⟨rfl,h1⟩
   rw [h1]
   clear h1 w1 HA
   go_wp2_with fail
   go_ret
   exact ⟨ret_str (by rw [HX.out]),HB.out _⟩
 | d + 1,i,v,w,hd,hi,h=>by
   have HA := hide (atM raw v i w h hr (by omega))
   have hk40 := atN_lt raw i
   have HN1 := hide (condM raw hr d (i + 1) v w (by omega) (by omega) h)
   have HN2:Hid (∀ W,Below w.heap.size w W -> _) := fun W hW=>condM raw hr d (i + 3) v W (by omega) (by omega) (h.below hW)
   have l1 := condN_l raw d (i + 1) (by omega)
   have l2 := condN_l raw d (i + 3) (by omega)
   have g:(((d + 1:Nat):Int) == 0) = false := by simp; omega
   have h6:Pl.atN raw i % 6 = 0 \/ Pl.atN raw i % 6 = 1 \/ Pl.atN raw i % 6 = 2 \/ Pl.atN raw i % 6 = 3 \/ Pl.atN raw i % 6 = 4 \/ Pl.atN raw i % 6 = 5 := by omega
   rcases h6 with h6 | h6 | h6 | h6 | h6 | h6
   · have HX := hide (cond_0 (d := d) h6)
     obtain ⟨a,c,rfl,_⟩ := h
     generalize (Pl.condN raw (d + 1) i).x = xs at *
     generalize (Pl.condN raw d (i + 1)).x = x1 at *
     generalize (Pl.condN raw d (i + 3)).x = x2 at *
     generalize Pl.atN raw i = k at *
     have g0:((k:Int) % 6 == 0) = true := by simp; omega
     clear h6
     go_enter Tryz.func28,Tryz.ntmps28
     go_wp2_with fail
     refine (unhide HA).mono ?_
     rintro e w1 ⟨rfl,h1⟩
     rw [h1]
     clear h1 w1 HA
     go_wp2_with fail
     refine (unhide HN1).mono ?_
     rintro e w1 ⟨rfl,hb1⟩
     have HC2 := hide ((unhide HN2) w1 hb1)
     have HB1 := hide hb1
     clear hb1 HN1 HN2
     go_wp2_with fail
     refine (unhide HC2).mono ?_
     rintro e w2 ⟨rfl,hb2⟩
     have HB2:Hid (Below w.heap.size w w2) := HB1.out.trans (hb2.mono HB1.out.size)
     have HE:Hid (∀ o,Below w.heap.size w (w2.alloc o)) := fun o=>HB2.out.alloc HB2.out.size o
     clear hb2 HC2
     go_wp2_with fail
     go_ret
     exact ⟨ret_str (by rw [<- HX.out]; exact cat3 [40,78,79,84,32] x1 [41]),HB2.out⟩
   · have HX := hide (cond_1 (d := d) h6)
     obtain ⟨a,c,rfl,_⟩ := h
     generalize (Pl.condN raw (d + 1) i).x = xs at *
     generalize (Pl.condN raw d (i + 1)).x = x1 at *
     generalize (Pl.condN raw d (i + 3)).x = x2 at *
     generalize Pl.atN raw i = k at *
     have g0:((k:Int) % 6 == 0) = false := by simp; omega
     have g1:((k:Int) % 6 == 1) = true := by simp; omega
     clear h6
     go_enter Tryz.func28,Tryz.ntmps28
     go_wp2_with fail
     refine (unhide HA).mono ?_
     rintro e w1 ⟨rfl,h1⟩
     rw [h1]
     clear h1 w1 HA
     go_wp2_with fail
     refine (unhide HN1).mono ?_
     rintro e w1 ⟨rfl,hb1⟩
     have HC2 := hide ((unhide HN2) w1 hb1)
     have HB1 := hide hb1
     clear hb1 HN1 HN2
     go_wp2_with fail
     refine (unhide HC2).mono ?_
     rintro e w2 ⟨rfl,hb2⟩
     have HB2:Hid (Below w.heap.size w w2) := HB1.out.trans (hb2.mono HB1.out.size)
     have HE:Hid (∀ o,Below w.heap.size w (w2.alloc o)) := fun o=>HB2.out.alloc HB2.out.size o
     clear hb2 HC2
     go_wp2_with fail
     go_ret
     exact ⟨ret_str (by rw [<- HX.out]; exact str3 [40] x1 [32,65,78,68,32] x2 [41]),HB2.out⟩
   · have HX := hide (cond_2 (d := d) h6)
     obtain ⟨a,c,rfl,_⟩ := h
     generalize (Pl.condN raw (d + 1) i).x = xs at *
     generalize (Pl.condN raw d (i + 1)).x = x1 at *
     generalize (Pl.condN raw d (i + 3)).x = x2 at *
     generalize Pl.atN raw i = k at *
     have g0:((k:Int) % 6 == 0) = false := by simp; omega
     have g1:((k:Int) % 6 == 1) = false := by simp; omega
     have g2:((k:Int) % 6 == 2) = true := by simp; omega
     clear h6
     go_enter Tryz.func28,Tryz.ntmps28
     go_wp2_with fail
     refine (unhide HA).mono ?_
     rintro e w1 ⟨rfl,h1⟩
     rw [h1]
     clear h1 w1 HA
     go_wp2_with fail
     refine (unhide HN1).mono ?_
     rintro e w1 ⟨rfl,hb1⟩
     have HC2 := hide ((unhide HN2) w1 hb1)
     have HB1 := hide hb1
     clear hb1 HN1 HN2
     go_wp2_with fail
     refine (unhide HC2).mono ?_
     rintro e w2 ⟨rfl,hb2⟩
     have HB2:Hid (Below w.heap.size w w2) := HB1.out.trans (hb2.mono HB1.out.size)
     have HE:Hid (∀ o,Below w.heap.size w (w2.alloc o)) := fun o=>HB2.out.alloc HB2.out.size o
     clear hb2 HC2
     go_wp2_with fail
     go_ret
     exact ⟨ret_str (by rw [<- HX.out]; exact str3 [40] x1 [32,79,82,32] x2 [41]),HB2.out⟩
   · have HX := hide (cond_3 (d := d) h6)
     obtain ⟨a,c,rfl,_⟩ := h
     generalize (Pl.condN raw (d + 1) i).x = xs at *
     generalize (Pl.condN raw d (i + 1)).x = x1 at *
     generalize (Pl.condN raw d (i + 3)).x = x2 at *
     generalize Pl.atN raw i = k at *
     have g0:((k:Int) % 6 == 0) = false := by simp; omega
     have g1:((k:Int) % 6 == 1) = false := by simp; omega
     have g2:((k:Int) % 6 == 2) = false := by simp; omega
     have g3:((k:Int) % 6 == 3) = true := by simp; omega
     clear h6
     go_enter Tryz.func28,Tryz.ntmps28
     go_wp2_with fail
     refine (unhide HA).mono ?_
     rintro e w1 ⟨rfl,h1⟩
     rw [h1]
     clear h1 w1 HA
     go_wp2_with fail
     refine (unhide HN1).mono ?_
     rintro e w1 ⟨rfl,hb1⟩
     have HC2 := hide ((unhide HN2) w1 hb1)
     have HB1 := hide hb1
     clear hb1 HN1 HN2
     go_wp2_with fail
     refine (unhide HC2).mono ?_
     rintro e w2 ⟨rfl,hb2⟩
     have HB2:Hid (Below w.heap.size w w2) := HB1.out.trans (hb2.mono HB1.out.size)
     have HE:Hid (∀ o,Below w.heap.size w (w2.alloc o)) := fun o=>HB2.out.alloc HB2.out.size o
     clear hb2 HC2
     go_wp2_with fail
     go_ret
     exact ⟨ret_str (by rw [<- HX.out]; exact cat3 [40] x1 [32,73,83,32,78,85,76,76,41]),HB2.out⟩
   · have HX := hide (cond_4 (d := d) h6)
     have hol := cmpX_len (Pl.atN raw i / 6 % 3)
     have HOp:Hid (∀ W:World,_) := fun W=>strs_cell W _ (cmpX_at3 (Pl.atN raw i / 6 % 3) (by omega))
     obtain ⟨a,c,rfl,_⟩ := h
     generalize (Pl.condN raw (d + 1) i).x = xs at *
     generalize (Pl.condN raw d (i + 1)).x = x1 at *
     generalize (Pl.condN raw d (i + 3)).x = x2 at *
     generalize cmpX (Pl.atN raw i / 6 % 3) = op at *
     simp only [strsO,List.map_cons,List.map_nil] at HOp
     generalize Pl.atN raw i = k at *
     have g0:((k:Int) % 6 == 0) = false := by simp; omega
     have g1:((k:Int) % 6 == 1) = false := by simp; omega
     have g2:((k:Int) % 6 == 2) = false := by simp; omega
     have g3:((k:Int) % 6 == 3) = false := by simp; omega
     have g4:((k:Int) % 6 == 4) = true := by simp; omega
     clear h6
     go_enter Tryz.func28,Tryz.ntmps28
     go_wp2_with fail
     refine (unhide HA).mono ?_
     rintro e w1 ⟨rfl,h1⟩
     rw [h1]
     clear h1 w1 HA
     go_wp2_with fail
     refine (unhide HN1).mono ?_
     rintro e w1 ⟨rfl,hb1⟩
     have HC2 := hide ((unhide HN2) w1 hb1)
     have HB1 := hide hb1
     clear hb1 HN1 HN2
     go_wp2_with fail
     refine (unhide HC2).mono ?_
     rintro e w2 ⟨rfl,hb2⟩
     have HB2:Hid (Below w.heap.size w w2) := HB1.out.trans (hb2.mono HB1.out.size)
     have HE:Hid (∀ o,Below w.heap.size w (w2.alloc o)) := fun o=>HB2.out.alloc HB2.out.size o
     clear hb2 HC2
     have hcell := HOp.out w2
     clear HOp
     go_wp2_with fail
     go_ret
     exact ⟨ret_str (by rw [<- HX.out]; exact str3 [40] x1 op x2 [41]),HE.out _⟩
   · have HX := hide (cond_5 (d := d) h6)
     have hol := cmpX_len (Pl.atN raw i / 6 % 6)
     have HOp:Hid (∀ W:World,_) := fun W=>strs_cell W _ (cmpX_at6 (Pl.atN raw i / 6 % 6) (by omega))
     have HM1:Hid (∀ W,Below w.heap.size w W -> _) := fun W hW=>numM raw hr 2 (i + 1) v W (by omega) (by omega) (h.below hW)
     have HM2:Hid (∀ W,Below w.heap.size w W -> _) := fun W hW=>numM raw hr 2 (i + 2) v W (by omega) (by omega) (h.below hW)
     have l3 := numN_l raw 2 (i + 1) (by omega)
     have l4 := numN_l raw 2 (i + 2) (by omega)
     obtain ⟨a,c,rfl,_⟩ := h
     generalize (Pl.condN raw (d + 1) i).x = xs at *
     generalize (Pl.condN raw d (i + 1)).x = x1 at *
     generalize (Pl.condN raw d (i + 3)).x = x2 at *
     generalize (Pl.numN raw 2 (i + 1)).x = y1 at *
     generalize (Pl.numN raw 2 (i + 2)).x = y2 at *
     generalize cmpX (Pl.atN raw i / 6 % 6) = op at *
     simp only [strsO,List.map_cons,List.map_nil] at HOp
     generalize Pl.atN raw i = k at *
     have g0:((k:Int) % 6 == 0) = false := by simp; omega
     have g1:((k:Int) % 6 == 1) = false := by simp; omega
     have g2:((k:Int) % 6 == 2) = false := by simp; omega
     have g3:((k:Int) % 6 == 3) = false := by simp; omega
     have g4:((k:Int) % 6 == 4) = false := by simp; omega
     clear h6
     go_enter Tryz.func28,Tryz.ntmps28
     go_wp2_with fail
     refine (unhide HA).mono ?_
     rintro e w1 ⟨rfl,h1⟩
     rw [h1]
     clear h1 w1 HA
     go_wp2_with fail
     refine (unhide HN1).mono ?_
     rintro e w1 ⟨rfl,hb1⟩
     have HC2 := hide ((unhide HN2) w1 hb1)
     have HB1 := hide hb1
     clear hb1 HN1 HN2
     go_wp2_with fail
     refine (unhide HC2).mono ?_
     rintro e w2 ⟨rfl,hb2⟩
     have HB2:Hid (Below w.heap.size w w2) := HB1.out.trans (hb2.mono HB1.out.size)
     have HE:Hid (∀ o,Below w.heap.size w (w2.alloc o)) := fun o=>HB2.out.alloc HB2.out.size o
     clear hb2 HC2 HE
     have HD1 := hide ((unhide HM1) w2 HB2.out)
     go_wp2_with fail
     refine (unhide HD1).mono ?_
     rintro e w3 ⟨rfl,hb3⟩
     have HB3:Hid (Below w.heap.size w w3) := HB2.out.trans (hb3.mono HB2.out.size)
     have HD2 := hide ((unhide HM2) w3 HB3.out)
     clear hb3 HD1 HM1 HM2
     go_wp2_with fail
     refine (unhide HD2).mono ?_
     rintro e w4 ⟨rfl,hb4⟩
     have HB4:Hid (Below w.heap.size w w4) := HB3.out.trans (hb4.mono HB3.out.size)
     have HE:Hid (∀ o,Below w.heap.size w (w4.alloc o)) := fun o=>HB4.out.alloc HB4.out.size o
     have hcell := HOp.out w4
     clear hb4 HD2 HOp
     go_wp2_with fail
     go_ret
     exact ⟨ret_str (by rw [<- HX.out]; exact str3 [40] y1 op y2 [41]),HE.out _⟩
end Go.Proofs.YtojdpjpldokjmaaGreatDoor
