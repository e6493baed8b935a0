/-
  What is proved here: the small thing that the statements on boot ask first is so.
  Conditions: the variable fourBits holds the sixteen words.
-/
import Derived.Test.YtoemdmfpcobadaaDoorJBootNextP
namespace Go.Proofs.YtoemdmfpcobadaaDoor
open Go.RowKit

theorem blk_new (n wear j : Nat) (h : j < n) : blkB (newF n wear) j = List.replicate 1024 255 := by
  unfold blkB newF
  rw [List.drop_replicate, List.take_replicate]
  congr 1
  omega
theorem cell_ones (i : Nat) (h : i < 32) : cellB (List.replicate 1024 255) i = List.replicate 32 255 := by
  unfold cellB
  rw [List.drop_replicate, List.take_replicate]
  congr 1
  omega
theorem see_ones (wh : Nat) (k : KS) : seeB wh (List.replicate 1024 255) k = k := by
  unfold seeB
  have : ∀ l : List Nat, (∀ i ∈ l, i < 32) → l.foldl (seeK wh (List.replicate 1024 255)) k = k := by
    intro l
    induction l with
    | nil => intro _; rfl
    | cons i l ih =>
      intro h
      rw [List.foldl_cons]
      have hs : seeK wh (List.replicate 1024 255) k i = k := by
        unfold seeK
        rw [cell_ones i (h i List.mem_cons_self), decE_ones]
      rw [hs]
      exact ih (fun q hq => h q (List.mem_cons_of_mem _ hq))
  exact this _ (fun i hi => List.mem_range.1 hi)
theorem find_new (n wear j : Nat) (h : j + 1 < n) : findK (newF n wear) j = KS.first := by
  unfold findK
  rw [blk_new n wear (j + 1) h, blk_new n wear j (by omega), see_ones, see_ones]
theorem room_ones : roomI (List.replicate 1024 255) (-1) = some 0 := by
  refine roomI_some (k := 1) (q := []) (by decide) rfl (fun x hx => by cases hx) ?_
  unfold freeI
  rw [cell_ones 0 (by decide)]
  decide
def awkB : BR := ⟨0, 1, 0, 0, 0⟩
theorem awk_room : roomE KS.first 1 (newF 3 10) = ((0, 0), 0, newF 3 10) := by
  unfold roomE
  have h0 : (newF 3 10).down = false := rfl
  have hw : KS.first.wh = 0 := rfl
  have hl : KS.first.la = -1 := rfl
  rw [h0, if_neg (by decide), hw, hl, blk_new 3 10 (1 + 0) (by decide), room_ones]
theorem awk_prog : (progE KS.first 1 awkB (roomE KS.first 1 (newF 3 10))).1 = 0 := by
  rw [awk_room]
  unfold progE programF
  have hl : (newF 3 10).b.length = 3072 := by unfold newF; rw [List.length_replicate]
  rw [entB_len, there9 (by decide) (by decide) (by decide) (by rw [hl]; decide), if_neg (by decide), if_neg (by show ¬ false = true; decide)]
  rfl
theorem awk_put : (putE KS.first 1 (newF 3 10) awkB).1 = 0 ∧ (putE KS.first 1 (newF 3 10) awkB).2.1 = ⟨1, awkB, 0, 0, false⟩ := by
  unfold putE
  rw [awk_prog]
  rw [show (roomE KS.first 1 (newF 3 10)).2.1 = 0 by rw [awk_room]]
  rw [if_neg (by decide), if_neg (by decide), awk_room]
  exact ⟨rfl, rfl⟩
theorem awk_save : (saveE KS.first 1 (newF 3 10) awkB).1 = 0 ∧ (saveE KS.first 1 (newF 3 10) awkB).2.1 = ⟨1, awkB, 0, 0, false⟩ := by
  unfold saveE
  rw [if_neg (by decide), if_neg (by decide), if_neg (by decide), awk_put.1, awk_put.2]
  exact ⟨rfl, rfl⟩

set_option maxRecDepth 100000 in
set_option maxHeartbeats 4000000 in
theorem awake9_any (w : World) (hgf : 1 < w.heap.size) (hf : Tab w 1 (fours.map v32)) : Calls Tryd.prog 5 #[] w fun e w' => e = .returned (.bool true) ∧ Below w.heap.size w w' := by
  have HN : Hid (Calls Tryd.prog 7 #[.int .i64 3, .int .i64 10] w fun e w' => ∃ L : PLay6, e = .returned (.tuple #[.pointer (some ⟨L.g, 0, none⟩), .int .i64 0]) ∧ L.n = 3 ∧ PFlash w' L (newF 3 10) ∧ Below w.heap.size w w' ∧ (∀ q, L.T q → w.heap.size ≤ q)) := thePF.new_any 3 10 w (by decide) (by decide) (by decide) (by decide)
  go_enter Tryd.func5, Tryd.ntmps5
  go_wp2_with fail
  refine HN.out.mono ?_
  rintro e w1 ⟨L, rfl, hn, hD1, hB1, hT1⟩
  clear HN
  have HNL : Hid (L.n = 3) := hn
  clear hn
  have HO : Hid (Calls Tryd.prog 9 #[.pointer (some ⟨L.g, 0, none⟩), .int .i64 1] w1 fun e w' => Below w1.heap.size w1 w' ∧ ∃ g, e = .returned (.tuple #[.pointer (some ⟨g, 0, none⟩), .int .i64 0]) ∧ Blk w' g 71 (kpC L 1 KS.first) ∧ w1.heap.size ≤ g) := by
    refine (open9_any L (newF 3 10) 1 w1 hD1 (by rw [HNL.out]; decide) (Nat.lt_of_lt_of_le hgf hB1.size) (hf.below hB1 hgf)).mono ?_
    rintro e w' ⟨h1, h2⟩
    have h0 : (newF 3 10).down = false := rfl
    rw [h0, if_neg (by decide), find_new 3 10 1 (by decide)] at h2
    exact ⟨h1, h2⟩
  go_wp2_with fail
  refine HO.out.mono ?_
  rintro e w2 ⟨hb2, g, rfl, hK2, hg2⟩
  clear HO
  have hB2 : Below w.heap.size w w2 := hB1.trans (hb2.mono hB1.size)
  have hD2 := thePF.after hD1 hb2
  have hgT : ¬ L.T g := fun h => by have := hD1.lt g h; omega
  have hs1 := hB1.size
  have HSV : Hid (Calls Tryd.prog 19 #[.pointer (some ⟨g, 0, none⟩), .agg #[.int .i64 0, .int .i64 1, .int .i64 0, .int .i64 0, .int .i64 0]] w2 fun e w' => e = .returned (.int .i64 0) ∧ Blk w' g 71 (kpC L 1 ⟨1, awkB, 0, 0, false⟩) ∧ Chg (kT L g) w2 w') := by
    refine (save9_any L (newF 3 10) g 1 KS.first awkB w2 hK2 hgT hD2 (by rw [HNL.out]; decide) (by decide) (by decide) (Nat.lt_of_lt_of_le hgf hB2.size) (hf.below hB2 hgf) (fun h => by have := hT1 _ h; omega)).mono ?_
    rintro e w' ⟨h1, h2, h3, h4⟩
    rw [awk_save.1] at h1
    rw [awk_save.2] at h2
    exact ⟨h1, h2, h4⟩
  go_wp2_with fail
  refine HSV.out.mono ?_
  rintro e w3 ⟨rfl, hK3, hc3⟩
  clear HSV
  have hB3 : Below w.heap.size w w3 := hB2.trans (hc3.below (fun q hq => by rcases hq with h | h; exact hT1 q h; omega) hB2.size)
  have HG : Hid (Calls Tryd.prog 22 #[.pointer (some ⟨g, 0, none⟩)] w3 fun e w' => e = .returned (.int .i64 1) ∧ w' = w3) := gen9_any L g 1 _ w3 hK3
  have HR : Hid (Calls Tryd.prog 21 #[.pointer (some ⟨g, 0, none⟩)] w3 fun e w' => e = .returned (.agg #[.int .i64 0, .int .i64 1, .int .i64 0, .int .i64 0, .int .i64 0]) ∧ Below w3.heap.size w3 w') := record9_any L g 1 _ w3 hK3
  clear hK3 hK2 hD1 hD2 hc3
  have heq : ∀ w, (binOp .eql 40 (.agg #[.int .i64 0, .int .i64 1, .int .i64 0, .int .i64 0, .int .i64 0]) (.agg #[.int .i64 0, .int .i64 1, .int .i64 0, .int .i64 0, .int .i64 0])).run Tryd.prog w = .ok (.bool true) w := fun w => by kernel_rfl
  go_wp2_with fail
  refine HG.out.mono ?_
  rintro e w4 ⟨rfl, hw4⟩
  subst hw4
  go_wp2_with fail
  refine HR.out.mono ?_
  rintro e w5 ⟨rfl, hb5⟩
  go_wp2
  go_ret
  exact ⟨rfl, hB3.trans (hb5.mono hB3.size)⟩
end Go.Proofs.YtoemdmfpcobadaaDoor
