/-
  What is proved here: the statements' awake of layer 10 answers true.
  Conditions: the variables fourBits, firstWords and roundWords hold their words.
-/
import Derived.Test.YthophonofaaafaaDoorJManMake
namespace Go.Proofs.YthophonofaaafaaDoor
open Go.RowKit

/-- The three variables that are laid. -/
structure Laid10 (w : World) : Prop where
  g4 : 2 < w.heap.size
  f4 : Tab w 2 (fours.map v32)
  gf : 0 < w.heap.size
  ff : Tab w 0 (St.start.list.map v32)
  gk : 1 < w.heap.size
  fk : Tab w 1 (kWords.map v32)
theorem Laid10.below {w w' : World} (h : Laid10 w) (hb : Below w.heap.size w w') : Laid10 w' :=
  ⟨Nat.lt_of_lt_of_le h.g4 hb.size, h.f4.below hb h.g4, Nat.lt_of_lt_of_le h.gf hb.size, h.ff.below hb h.gf, Nat.lt_of_lt_of_le h.gk hb.size, h.fk.below hb h.gk⟩
/-- What Make answers, both ways. -/
theorem make_any (v : Int) (bv : Value) (bs : List UInt8) (c : Int) (w : World) (hbl : bs.length ≤ 1000000000) (hseg : Seg w bv bs) (L : Laid10 w) :
    Calls Tryd.prog 10 #[.int .i64 v, bv, .int .i64 c] w fun e w' => ((numsOk (numsM v bs c) ∧ ∃ su, e = .returned (.tuple #[manV (makeM v bs c) su, .int .i64 0]) ∧ OwnW w' w.heap.size su (makeM v bs c).u) ∨ (¬ numsOk (numsM v bs c) ∧ e = .returned (.tuple #[manV zeroM (.slice none 0 0), .int .i64 1]))) ∧ Below w.heap.size w w' := by
  by_cases hn : numsOk (numsM v bs c)
  · refine (make_yes v bv bs c w hseg hn L.g4 L.f4 L.gf L.ff L.gk L.fk).mono ?_
    rintro e w' ⟨su, h1, h2, h3⟩
    exact ⟨.inl ⟨hn, su, h1, h2⟩, h3⟩
  · refine (make_no v bv bs c w hbl hseg hn).mono ?_
    rintro e w' ⟨h1, h3⟩
    exact ⟨.inr ⟨hn, h1⟩, h3⟩
def forty : List UInt8 := List.replicate 40 0
theorem forty_ok : numsOk (numsM 3 forty 16) := by decide
theorem forty_len : (makeM 3 forty 16).u.length = 3 := by
  show (sumsM forty 16 (countM (numsM 3 forty 16)).toNat).length = 3
  rw [sumsM_len]; rfl
theorem mk_forty (w : World) : (Instr.makeSlice 22 (.int .i64 40) (.int .i64 40)).run Tryd.prog w = .ok (.slice (some ⟨w.heap.size, 0, none⟩) 40 40) (w.alloc (.cells (forty.map v8).toArray 5)) :=
  mk_bytes 40 (by omega) (fun _ => .int .u8 0) w

set_option maxRecDepth 100000 in
set_option maxHeartbeats 1000000 in
theorem awake10_any (w : World) (L : Laid10 w) :
    Calls Tryd.prog 9 #[] w fun e w' => e = .returned (.bool true) ∧ Below w.heap.size w w' := by
  have hmk := mk_forty
  have hB1 := (Below.refl w.heap.size w).alloc (Nat.le_refl _) (.cells (forty.map v8).toArray 5)
  have hL1 := L.below hB1
  have hs : Seg (w.alloc (.cells (forty.map v8).toArray 5)) (.slice (some ⟨w.heap.size, 0, none⟩) 40 40) forty := Seg.of_row (Blk.new _ _ _).row rfl (Nat.le_refl _) (by simp)
  have HM : Hid (Calls Tryd.prog 10 #[.int .i64 3, .slice (some ⟨w.heap.size, 0, none⟩) 40 40, .int .i64 16] (w.alloc (.cells (forty.map v8).toArray 5)) fun e w' => ∃ su, e = .returned (.tuple #[manV (makeM 3 forty 16) su, .int .i64 0]) ∧ OwnW w' (w.alloc (.cells (forty.map v8).toArray 5)).heap.size su (makeM 3 forty 16).u ∧ Below (w.alloc (.cells (forty.map v8).toArray 5)).heap.size (w.alloc (.cells (forty.map v8).toArray 5)) w') :=
    make_yes 3 _ forty 16 _ hs forty_ok hL1.g4 hL1.f4 hL1.gf hL1.ff hL1.gk hL1.fk
  have hz := zeroMan
  have hl := forty_len
  have HH : Hid ((makeM 3 forty 16).h.length = 32) := makeM_hash _ _ _
  have HS : Hid ((makeM 3 forty 16).s = 40) := rfl
  clear hs hL1 L
  unfold manV at *
  generalize makeM 3 forty 16 = M at *
  generalize (forty.map v8).toArray = FA at *
  go_enter Tryd.func9, Tryd.ntmps9
  go_wp2_with fail
  refine HM.out.mono ?_
  rintro e w1 ⟨su, rfl, ho, hb1⟩
  obtain ⟨ao, cp, rfl, _⟩ := ho.wds
  rw [hl]
  have hiM := manC_info M (.slice ao 3 cp) HH.out
  have hoM := manC_one M (.slice ao 3 cp) rfl
  have h35 := manC_35 M (.slice ao 3 cp) HH.out
  have h1 := manC_1 M (.slice ao 3 cp)
  rw [HS.out] at h1
  have HSZ : Hid ((manC zeroM (.slice none 0 0)).size = (manC M (.slice ao 3 cp)).size) := (manC_size _ _ (by simp [zeroM])).trans (manC_size _ _ HH.out).symm
  have hBW : Below w.heap.size w w1 := hB1.trans (hb1.mono hB1.size)
  clear ho HM hmk hl
  generalize manC M (.slice ao 3 cp) = MC at *
  generalize manC zeroM (.slice none 0 0) = Z at *
  go_wp2_with (refine store_blk rfl 27 _ _ rfl rfl w1.heap.size MC rfl rfl 27 Z (by exact Blk.new _ _ _) hiM HSZ.out hoM ?_; intro W2 k2 hg2 hs2; have c35 := k2.cell h35; have c1 := k2.cell h1)
  go_ret
  exact ⟨rfl, below_grown (hBW.alloc hBW.size _) hg2 (by simp; have := hBW.size; omega) (fun q hq => by cases hq; exact hBW.size)⟩
end Go.Proofs.YthophonofaaafaaDoor
