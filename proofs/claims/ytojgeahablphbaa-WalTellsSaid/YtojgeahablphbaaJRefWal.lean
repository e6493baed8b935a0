/-
  What is proved here: the document's log: numbers in four bytes, heads, pieces.
  Conditions: those that each fact names.
-/
import Derived.Test.YtojgeahablphbaaJShaPure
import Derived.Test.YtojgeahablphbaaJWalPure
import Derived.Test.YtojgeahablphbaaJChgWorld
import Derived.Test.YtojgeahablphbaaJWalCells
namespace Go.Proofs.Ytojgeahablphbaa
open Go.RowKit

set_option maxRecDepth 100000 in
theorem number7_any (n : Nat) (w : World) (hn : n < 4294967296) :
    Calls Try.prog 15 #[.int .i64 (n : Int)] w fun e w' => ∃ v, e = .returned v ∧ Own w' w.heap.size v (num4 n) ∧ Below w.heap.size w w' := by
  go_enter Try.func15, Try.ntmps15
  have ho := own_new7 w (num4 n) (by unfold maxLen; show 4 ≤ _; decide)
  have hb := (Below.refl w.heap.size w).alloc (Nat.le_refl _) (.cells ((num4 n).map v8).toArray 5)
  rw [num4_cells n hn] at ho hb
  go_wp2
  go_ret
  exact ⟨_, rfl, ho, hb⟩
set_option maxRecDepth 100000 in
theorem of7_any (x : Value) (bs : List UInt8) (w : World) (hS : Seg w x bs) (h4 : 4 ≤ bs.length) :
    Calls Try.prog 40 #[x] w fun e w' => e = .returned (.int .i64 (of4 bs : Int)) ∧ Below w.heap.size w w' := by
  obtain ⟨ab, cb, rfl⟩ := Seg.shapeD hS
  obtain ⟨b, off, rfl, hbc, hrow, hbl⟩ := hS.formD (by omega)
  have d : ∀ j, j < 4 → ∃ c : Int, w.cell? ⟨b, off + j, none⟩ = some (.int .u8 c) ∧ 0 ≤ c ∧ c < 256 ∧ ((bs.getD j 0).toNat : Int) = c := fun j hj => by
    have hl := (bs.getD j 0).toNat_lt
    refine ⟨((bs.getD j 0).toNat : Int), ?_, by omega, by omega, rfl⟩
    rw [hrow j (by omega)]
    simp [n8, show j < bs.length by omega]
  obtain ⟨c0, d0, a0, b0, e0⟩ := d 0 (by decide)
  obtain ⟨c1, d1, a1, b1, e1⟩ := d 1 (by decide)
  obtain ⟨c2, d2, a2, b2, e2⟩ := d 2 (by decide)
  obtain ⟨c3, d3, a3, b3, e3⟩ := d 3 (by decide)
  rw [Nat.add_zero] at d0
  have i0 := index7 b off bs.length cb 0 0 rfl (by omega)
  have i1 := index7 b off bs.length cb 1 1 rfl (by omega)
  have i2 := index7 b off bs.length cb 2 2 rfl (by omega)
  have i3 := index7 b off bs.length cb 3 3 rfl (by omega)
  have HO : Hid ((of4 bs : Int) = c0 + c1 * 256 + c2 * 65536 + c3 * 16777216) := by
    show _ = _
    unfold of4
    omega
  clear d e0 e1 e2 e3 hrow
  go_enter Try.func40, Try.ntmps40
  go_wp2_with fail
  go_still (by kernel_rfl)
  go_wp2
  go_ret
  rw [HO.out]
  refine ⟨?_, (Below.refl _ _).drew⟩
  show Ending.returned (.int .i64 (IntKind.i64.wrap (IntKind.i64.wrap (IntKind.i64.wrap (IntKind.i64.wrap c0 + IntKind.i64.wrap (IntKind.i64.wrap c1 * 256)) + IntKind.i64.wrap (IntKind.i64.wrap c2 * 65536)) + IntKind.i64.wrap (IntKind.i64.wrap c3 * 16777216)))) = _
  congr 2
  simp only [IntKind.wrap_i64]
  omega



set_option maxRecDepth 100000 in
set_option maxHeartbeats 1000000 in
theorem piece7_any (k : Nat) (x : Value) (bs : List UInt8) (w : World) (hk : k < 256) (hS : Seg w x bs) (hl : bs.length ≤ 100000000) :
    Calls Try.prog 7 #[.int .i64 (k : Int), x] w fun e w' => ∃ v, e = .returned v ∧ Own w' w.heap.size v (pieceB k bs) ∧ Below w.heap.size w w' := by
  obtain ⟨ab, cb, rfl⟩ := Seg.shapeD hS
  have HN : Hid (∀ W, Calls Try.prog 15 #[.int .i64 (bs.length : Int)] W fun e w' => ∃ v, e = .returned v ∧ Own w' W.heap.size v (num4 bs.length) ∧ Below W.heap.size W w') := fun W => number7_any bs.length W (by omega)
  have ho0 := own_new7 w [UInt8.ofNat k] (by unfold maxLen; show 1 ≤ _; decide)
  have hb0 := (Below.refl w.heap.size w).alloc (Nat.le_refl _) (.cells (([UInt8.ofNat k] : List UInt8).map v8).toArray 5)
  have ek : (([UInt8.ofNat k] : List UInt8).map v8).toArray = #[.int .u8 (k : Int)] := by show #[v8 (UInt8.ofNat k)] = _; rw [v8_ofNat k hk]
  rw [ek] at ho0 hb0
  have hS0 := hS.alloc (.cells #[.int .u8 (k : Int)] 5)
  go_enter Try.func7, Try.ntmps7
  go_wp2_with fail
  refine (HN.out _).mono ?_
  rintro e w2 ⟨v10, rfl, ho2, hb2⟩
  have hB2 : Below w.heap.size w w2 := hb0.trans (hb2.mono hb0.size)
  have ho0' := ho0.below hb2 (Nat.le_refl _)
  have hS2 := hS.below hB2 (Nat.le_refl _)
  go_wp2_with (first | (at_builtin; refine app_own w2 rfl (.tmp 7) (.tmp 10) rfl w.heap.size _ [UInt8.ofNat k] rfl ho0' v10 (num4 bs.length) rfl ho2.seg (by show 1 + 4 ≤ _; decide) hB2.size ?_; intro v11 w3 ho3 hg3 hv3; have hB3 : Below w.heap.size w w3 := below_grown hB2 hg3 hB2.size (fun q hq => (ho0'.blocks q hq).1)) | (at_builtin; refine app_own w3 rfl (.tmp 11) (.tmp 12) rfl w.heap.size v11 (UInt8.ofNat k :: num4 bs.length) rfl ho3 _ bs rfl (by exact hS.below hB3 (Nat.le_refl _)) (by show 5 + bs.length ≤ _; omega) hB3.size ?_; intro v13 w4 ho4 hg4 hv4))
  go_ret
  have hB4 : Below w.heap.size w w4 := below_grown hB3 hg4 hB3.size (fun q hq => (ho3.blocks q hq).1)
  exact ⟨_, rfl, ho4, hB4⟩
end Go.Proofs.Ytojgeahablphbaa
