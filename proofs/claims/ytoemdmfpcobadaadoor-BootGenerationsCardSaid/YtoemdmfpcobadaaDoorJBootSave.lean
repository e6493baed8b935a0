/-
  What is proved here: Keeper.Save puts a record in the last one's place; Keeper.Record and Keeper.Generation tell it; boot.Open is a keeper of what there is.
  Conditions: the keeper and its flash lie in memory, the two blocks are there; the variable fourBits holds the sixteen words.
-/
import Derived.Test.YtoemdmfpcobadaaDoorJBootPut
namespace Go.Proofs.YtoemdmfpcobadaaDoor
open Go.RowKit

set_option maxRecDepth 100000 in
theorem gen9_any (L : PLay6) (g j : Nat) (k : KS) (w : World) (hK : Blk w g 71 (kpC L j k)) : Calls Tryd.prog 22 #[.pointer (some ⟨g, 0, none⟩)] w fun e w' => e = .returned (.int .i64 (k.gen : Int)) ∧ w' = w := by
  have d2 : w.cell? ⟨g, 2, none⟩ = some (.int .i64 (k.gen : Int)) := hK.cell (j := 2) rfl
  clear hK
  go_enter Tryd.func22, Tryd.ntmps22
  go_wp2
  go_ret
  exact ⟨rfl, rfl⟩
set_option maxRecDepth 100000 in
theorem record9_any (L : PLay6) (g j : Nat) (k : KS) (w : World) (hK : Blk w g 71 (kpC L j k)) : Calls Tryd.prog 21 #[.pointer (some ⟨g, 0, none⟩)] w fun e w' => e = .returned (brV k.r) ∧ Below w.heap.size w w' := by
  have hb := fun x => (Below.refl w.heap.size w).alloc (Nat.le_refl _) (.cells x 40)
  have hKA := fun x => hK.below (hb x) hK.lt
  have d3 : ∀ x, (w.alloc (.cells x 40)).cell? ⟨g, 3, none⟩ = some (.int .i64 k.r.active) := fun x => (hKA x).cell (j := 3) rfl
  have d4 : ∀ x, (w.alloc (.cells x 40)).cell? ⟨g, 4, none⟩ = some (.int .i64 k.r.trial) := fun x => (hKA x).cell (j := 4) rfl
  have d5 : ∀ x, (w.alloc (.cells x 40)).cell? ⟨g, 5, none⟩ = some (.int .i64 k.r.tries) := fun x => (hKA x).cell (j := 5) rfl
  have d6 : ∀ x, (w.alloc (.cells x 40)).cell? ⟨g, 6, none⟩ = some (.int .i64 k.r.v0) := fun x => (hKA x).cell (j := 6) rfl
  have d7 : ∀ x, (w.alloc (.cells x 40)).cell? ⟨g, 7, none⟩ = some (.int .i64 k.r.v1) := fun x => (hKA x).cell (j := 7) rfl
  clear hK hKA
  go_enter Tryd.func21, Tryd.ntmps21
  go_wp2
  refine bodyPost_ret (v := brV k.r) (results_cell_row Tryd.results21 _ _ w.heap.size 40 (brL k.r) (0, 0) _ rfl (Blk.new _ _ _) Tryd.underlying40 rfl info_boot9) rfl ⟨rfl, ?_⟩
  exact hb _
set_option maxRecDepth 100000 in
theorem firstE_any (w : World) : Calls Tryd.prog 28 #[] w fun e w' => e = .returned (.agg #[.int .i64 0, .int .i64 0, .int .i64 (-1), .int .i64 0, .int .i64 0, .int .i64 0]) ∧ Below w.heap.size w w' := by
  have hb := fun x => (Below.refl w.heap.size w).alloc (Nat.le_refl _) (.cells x 65)
  go_enter Tryd.func28, Tryd.ntmps28
  go_wp2
  refine bodyPost_ret (v := .agg #[.int .i64 0, .int .i64 0, .int .i64 (-1), .int .i64 0, .int .i64 0, .int .i64 0]) (results_cell_row Tryd.results28 _ _ w.heap.size 65 #[.int .i64 0, .int .i64 0, .int .i64 (-1), .int .i64 0, .int .i64 0, .int .i64 0] (0, 0) _ rfl (Blk.new _ _ _) Tryd.underlying65 rfl info_ent9) rfl ⟨rfl, ?_⟩
  exact hb _
set_option maxRecDepth 100000 in
theorem firstP_any (w : World) : Calls Tryd.prog 29 #[] w fun e w' => e = .returned (.agg #[.int .i64 0, .int .i64 (-1)]) ∧ Below w.heap.size w w' := by
  have hb := fun x => (Below.refl w.heap.size w).alloc (Nat.le_refl _) (.cells x 68)
  go_enter Tryd.func29, Tryd.ntmps29
  go_wp2
  refine bodyPost_ret (v := .agg #[.int .i64 0, .int .i64 (-1)]) (results_cell_row Tryd.results29 _ _ w.heap.size 68 #[.int .i64 0, .int .i64 (-1)] (0, 0) _ rfl (Blk.new _ _ _) Tryd.underlying68 rfl info_place9) rfl ⟨rfl, ?_⟩
  exact hb _

set_option maxRecDepth 100000 in
set_option maxHeartbeats 4000000 in
theorem open9_bad (L : PLay6) (s : FS) (bl : Int) (w : World) (hD : PFlash w L s) (hb : bl < 0 ∨ (L.n : Int) - 2 < bl) : Calls Tryd.prog 9 #[.pointer (some ⟨L.g, 0, none⟩), .int .i64 bl] w fun e w' => e = .returned (.tuple #[.pointer none, .int .i64 1]) ∧ w' = w := by
  have hcap := hD.ok.cap
  have HL : Hid (Calls Tryd.prog 27 #[.pointer (some ⟨L.g, 0, none⟩)] w fun e w' => e = .returned (.int .i64 (L.n : Int)) ∧ w = w') := len6_any L s w hD
  have hw2 : IntKind.i64.wrap ((L.n : Int) - 2) = (L.n : Int) - 2 := by rw [IntKind.wrap_i64]; omega
  clear hD
  by_cases h0 : bl < 0
  · go_enter Tryd.func9, Tryd.ntmps9
    go_wp2
    go_ret2
    exact ⟨rfl, rfl⟩
  · have h1 : (L.n : Int) - 2 < bl := by omega
    clear hb
    go_enter Tryd.func9, Tryd.ntmps9
    go_wp2_with fail
    refine HL.out.mono ?_
    rintro e w1 ⟨rfl, rfl⟩
    go_wp2
    go_ret2
    exact ⟨rfl, rfl⟩
theorem kpC_first (L : PLay6) (j : Nat) : kpC L j KS.first = #[.pointer (some ⟨L.g, 0, none⟩), .int .i64 (j : Int), .int .i64 0, .int .i64 0, .int .i64 (-1), .int .i64 0, .int .i64 0, .int .i64 0, .int .i64 0, .int .i64 (-1), .bool false] := rfl
set_option maxRecDepth 100000 in
set_option maxHeartbeats 4000000 in
theorem open9_any (L : PLay6) (s : FS) (j : Nat) (w : World) (hD : PFlash w L s) (hj : j + 1 < L.n) (hgf : 1 < w.heap.size) (hf : Tab w 1 (fours.map v32)) : Calls Tryd.prog 9 #[.pointer (some ⟨L.g, 0, none⟩), .int .i64 (j : Int)] w fun e w' => Below w.heap.size w w' ∧ (if s.down then e = .returned (.tuple #[.pointer none, .int .i64 7]) else ∃ g, e = .returned (.tuple #[.pointer (some ⟨g, 0, none⟩), .int .i64 0]) ∧ Blk w' g 71 (kpC L j (findK s j)) ∧ w.heap.size ≤ g) := by
  have hcap := hD.ok.cap
  have hTlt := hD.lt
  have HL : Hid (Calls Tryd.prog 27 #[.pointer (some ⟨L.g, 0, none⟩)] w fun e w' => e = .returned (.int .i64 (L.n : Int)) ∧ w = w') := len6_any L s w hD
  have hw2 : IntKind.i64.wrap ((L.n : Int) - 2) = (L.n : Int) - 2 := by rw [IntKind.wrap_i64]; omega
  have h0 : ¬ (j : Int) < 0 := by omega
  have h1 : ¬ (L.n : Int) - 2 < (j : Int) := by omega
  go_enter Tryd.func9, Tryd.ntmps9
  go_wp2_with fail
  refine HL.out.mono ?_
  rintro e w1 ⟨rfl, rfl⟩
  clear HL
  go_wp2_with fail
  refine (firstE_any w).mono ?_
  rintro e w2 ⟨rfl, hb2⟩
  go_wp2_with fail
  refine (firstP_any w2).mono ?_
  rintro e w3 ⟨rfl, hb3⟩
  have hB3 : Below w.heap.size w w3 := hb2.trans (hb3.mono hb2.size)
  obtain ⟨g, hg⟩ : ∃ g, g = w3.heap.size := ⟨_, rfl⟩
  have hbK := (Below.refl w3.heap.size w3).alloc (Nat.le_refl _) (.cells (kpC L j KS.first) 71)
  have hkK := Blk.new w3 71 (kpC L j KS.first)
  rw [← hg] at hkK
  have hB4 : Below w.heap.size w (w3.alloc (.cells (kpC L j KS.first) 71)) := hB3.trans (hbK.mono hB3.size)
  have hgw : w.heap.size ≤ g := by have := hB3.size; omega
  have HF : Hid (Calls Tryd.prog 30 #[.pointer (some ⟨g, 0, none⟩)] (w3.alloc (.cells (kpC L j KS.first) 71)) fun e w' => e = .returned (.int .i64 (lookE s)) ∧ Blk w' g 71 (kpC L j (if s.down then KS.first else seeB 1 (blkB s (j + 1)) (seeB 0 (blkB s j) KS.first))) ∧ Chg (fun q => q = g) (w3.alloc (.cells (kpC L j KS.first) 71)) w') := find9_any L s g j KS.first _ hkK (fun h => by have := hTlt g h; omega) (thePF.after hD hB4) hj (Nat.lt_of_lt_of_le hgf hB4.size) (hf.below hB4 hgf) (by omega)
  rw [kpC_first] at HF hB4
  clear hkK hbK hb2 hb3 hD hf
  go_wp2_with fail
  rw [← hg]
  refine HF.out.mono ?_
  rintro e w5 ⟨rfl, hK5, hc5⟩
  have hB5 : Below w.heap.size w w5 := hB4.trans (hc5.below (fun q hq => by omega) hB4.size)
  clear HF hB4 hB3 hc5 hg
  by_cases hdn : s.down = true
  · have e1 : lookE s = 7 := by unfold lookE; rw [if_pos hdn]
    rw [e1]
    clear e1
    go_wp2
    go_ret2
    exact ⟨hB5, rfl⟩
  · have e1 : lookE s = 0 := by unfold lookE; rw [if_neg hdn]
    rw [e1]
    clear e1
    rw [if_neg hdn] at hK5
    have HK5 : Hid (Blk w5 g 71 (kpC L j (findK s j))) := hK5
    clear hK5
    go_wp2
    go_ret2
    exact ⟨hB5, g, rfl, HK5.out, hgw⟩

set_option maxRecDepth 100000 in
set_option maxHeartbeats 8000000 in
theorem save9_any (L : PLay6) (s : FS) (g j : Nat) (k : KS) (r : BR) (w : World) (hK : Blk w g 71 (kpC L j k)) (hgT : ¬ L.T g) (hD : PFlash w L s) (hj : j + 1 < L.n) (hw : k.wh ≤ 1) (hgen : k.gen ≤ 1073741824) (hgf : 1 < w.heap.size) (hf : Tab w 1 (fours.map v32)) (hgL : ¬ L.T 1) :
    Calls Tryd.prog 19 #[.pointer (some ⟨g, 0, none⟩), brV r] w fun e w' => e = .returned (.int .i64 (saveE k j s r).1) ∧ Blk w' g 71 (kpC L j (saveE k j s r).2.1) ∧ PFlash w' L (saveE k j s r).2.2 ∧ Chg (kT L g) w w' := by
  have hglt := hK.lt
  have hTlt := hD.lt
  have HSE : Hid (saveE k j s r = if k.br then (10, k, s) else if rightR r = false then (1, k, s) else if k.gen = 1073741824 then (3, k, s) else ((putE k j s r).1, ⟨(putE k j s r).2.1.gen, (putE k j s r).2.1.r, (putE k j s r).2.1.wh, (putE k j s r).2.1.la, decide ((putE k j s r).1 ≠ 0)⟩, (putE k j s r).2.2)) := rfl
  generalize saveE k j s r = SE at *
  obtain ⟨Bx, hBx⟩ : ∃ Bx, Bx = w.heap.size := ⟨_, rfl⟩
  have hbA := (Below.refl w.heap.size w).alloc (Nat.le_refl _) (.cells (brL r) 40)
  have hkE := Blk.new w 40 (brL r)
  rw [← hBx] at hkE
  have hKA := hK.below hbA hK.lt
  have hDA := thePF.after hD hbA
  have hfA := hf.below hbA hgf
  have hcA : Chg (kT L g) w (w.alloc (.cells (brL r) 40)) := (Chg.refl _ _).alloc _
  have d10 : (w.alloc (.cells (brL r) 40)).cell? ⟨g, 10, none⟩ = some (.bool k.br) := hKA.cell (j := 10) rfl
  have HRG : Hid (Calls Tryd.prog 25 #[brV r] (w.alloc (.cells (brL r) 40)) fun e w' => e = .returned (.bool (rightR r)) ∧ Below (w.alloc (.cells (brL r) 40)).heap.size (w.alloc (.cells (brL r) 40)) w') := right9_any r _
  have HBL : Hid (brL r = #[.int .i64 r.active, .int .i64 r.trial, .int .i64 r.tries, .int .i64 r.v0, .int .i64 r.v1]) := rfl
  have HROK : Hid (rightR r = true → r.ok) := fun h => of_decide_eq_true h
  clear hK hD hf
  unfold brV at *
  unfold brL at *
  cases hbr : k.br with
  | true =>
    rw [hbr] at HSE d10
    rw [if_pos rfl] at HSE
    go_enter Tryd.func19, Tryd.ntmps19
    go_wp2
    go_ret
    rw [HSE.out]
    exact ⟨rfl, hKA, hDA, hcA⟩
  | false =>
  rw [hbr] at HSE d10
  rw [if_neg (by decide)] at HSE
  go_enter Tryd.func19, Tryd.ntmps19
  go_wp2_with fail
  refine HRG.out.mono ?_
  rintro e w2 ⟨rfl, hb2⟩
  clear HRG d10
  rw [← hBx]
  have hE2 := hkE.below hb2 hkE.lt
  have hK2 := hKA.below hb2 hKA.lt
  have hD2 := thePF.after hDA hb2
  have hf2 := hfA.below hb2 (Nat.lt_of_lt_of_le hgf hbA.size)
  have hc2 : Chg (kT L g) w w2 := hcA.trans (Chg.of_below (S := kT L g) hb2 (Nat.le_refl _)) (fun _ _ h => h)
  have hBw : w.heap.size ≤ Bx := by omega
  have hBg : Bx ≠ g := by omega
  clear hkE hKA hDA hfA hcA hb2 hbA hBx
  cases hrr : rightR r with
  | false =>
    rw [hrr] at HSE
    rw [if_pos rfl] at HSE
    go_wp2
    go_ret
    rw [HSE.out]
    exact ⟨rfl, hK2, hD2, hc2⟩
  | true =>
  have hrok := HROK.out hrr
  rw [hrr] at HSE
  rw [if_neg (by decide)] at HSE
  have d2 : w2.cell? ⟨g, 2, none⟩ = some (.int .i64 (k.gen : Int)) := hK2.cell (j := 2) rfl
  by_cases hmx : k.gen = 1073741824
  · rw [if_pos hmx] at HSE
    have hbx : ((k.gen : Int) == 1073741824) = true := by rw [hmx]; rfl
    clear hmx hgen
    go_wp2
    go_ret
    rw [HSE.out]
    exact ⟨rfl, hK2, hD2, hc2⟩
  rw [if_neg hmx] at HSE
  have hbx : ((k.gen : Int) == 1073741824) = false := by rw [beq_eq_false_iff_ne]; omega
  have HG1 : Hid (k.gen + 1 ≤ 1073741824) := by show _ ≤ _; omega
  clear hmx hgen
  have HPU : Hid (∀ W, Below w2.heap.size w2 W → Calls Tryd.prog 39 #[.pointer (some ⟨g, 0, none⟩), .agg #[.int .i64 ((k.gen : Int) + 1), .int .i64 r.active, .int .i64 r.trial, .int .i64 r.tries, .int .i64 r.v0, .int .i64 r.v1]] W fun e w' => e = .returned (.int .i64 (putE k j s r).1) ∧ Blk w' g 71 (kpC L j (putE k j s r).2.1) ∧ PFlash w' L (putE k j s r).2.2 ∧ Chg (kT L g) W w') := fun W hW => put9_any L s g j k r W (hK2.below hW hK2.lt) hgT (thePF.after hD2 hW) hj hw HG1.out hrok (by have := hc2.size; have := hW.size; omega) (hf2.below hW (by have := hc2.size; omega)) hgL
  have hwg : IntKind.i64.wrap ((k.gen : Int) + 1) = (k.gen : Int) + 1 := by rw [IntKind.wrap_i64]; have := HG1.out; omega
  go_wp2_with fail
  refine region_tail 9 (by kernel_rfl) (by kernel_rfl) ?_
  simp only [List.take_succ_cons, List.take_zero, List.drop_succ_cons, List.drop_zero]
  repeat still_step
  refine still_load rfl 40 _ rfl Bx 0 rfl [.int .i64 r.active, .int .i64 r.trial, .int .i64 r.tries, .int .i64 r.v0, .int .i64 r.v1] _ hE2.range' Tryd.underlying40 rfl info_boot9 ?_
  repeat still_step
  refine wpStill_nil ?_
  clear hwg hbx d2
  go_wp2_with fail
  refine (HPU.out _ (Below.refl _ _).drew).mono ?_
  rintro e W5 ⟨rfl, hK5, hD5, hc5⟩
  clear HPU hK2 hE2 hD2 hf2
  have hcW5 : Chg (kT L g) w W5 := (hc2.drew).trans hc5 (fun _ _ h => h)
  generalize putE k j s r = PE at *
  obtain ⟨pc, pk, ps⟩ := PE
  dsimp only at *
  have d10 : W5.cell? ⟨g, 10, none⟩ = some (.bool pk.br) := hK5.cell (j := 10) rfl
  have f10 := hK5.frozen 10
  have hcS : ∀ b, Chg (kT L g) W5 (W5.setCell ⟨g, 10, none⟩ (.bool b)) := fun b => (Chg.refl (kT L g) W5).setCell g 10 _ (fun _ => .inr rfl)
  have hcG : ∀ b, Chg (fun q => q = g) W5 (W5.setCell ⟨g, 10, none⟩ (.bool b)) := fun b => (Chg.refl _ W5).setCell g 10 _ (fun _ => rfl)
  have hKS : ∀ b, Blk (W5.setCell ⟨g, 10, none⟩ (.bool b)) g 71 (kpC L j ⟨pk.gen, pk.r, pk.wh, pk.la, b⟩) := fun b => (hK5.set 10 (.bool b)).of_eq rfl
  have HDS : Hid (∀ b, PFlash (W5.setCell ⟨g, 10, none⟩ (.bool b)) L ps) := fun b => hD5.chg (hcG b) (fun q hq e => hgT (e ▸ hq))
  have HKS : Hid (∀ b, Blk (W5.setCell ⟨g, 10, none⟩ (.bool b)) g 71 (kpC L j ⟨pk.gen, pk.r, pk.wh, pk.la, b⟩)) := hKS
  have HCS : Hid (∀ b, Chg (kT L g) W5 (W5.setCell ⟨g, 10, none⟩ (.bool b))) := hcS
  clear hcS hcG hKS hK5 hD5
  by_cases hpc : pc = 0
  · subst hpc
    go_wp2
    go_ret
    rw [HSE.out]
    exact ⟨rfl, HKS.out false, HDS.out _, hcW5.trans (HCS.out _) (fun _ _ h => h)⟩
  · have hne : (pc != 0) = true := by simpa using hpc
    rw [decide_eq_true hpc] at HSE
    clear hpc
    go_wp2
    go_ret
    rw [HSE.out]
    exact ⟨rfl, HKS.out true, HDS.out _, hcW5.trans (HCS.out _) (fun _ _ h => h)⟩
end Go.Proofs.YtoemdmfpcobadaaDoor
