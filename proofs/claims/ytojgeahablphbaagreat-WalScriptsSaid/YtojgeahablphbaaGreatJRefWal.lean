/-
  What is proved here: the document's log: numbers in four bytes, heads, pieces.
  Conditions: those that each fact names.
-/
import Derived.Test.YtojgeahablphbaaGreatJShaPure
import Derived.Test.YtojgeahablphbaaGreatJWalPure
import Derived.Test.YtojgeahablphbaaGreatJChgWorld
import Derived.Test.YtojgeahablphbaaGreatJWalTell
namespace Go.Proofs.YtojgeahablphbaaGreat
open Go.RowKit

set_option maxRecDepth 100000 in
theorem number7_any (n : Nat) (w : World) (hn : n < 4294967296) :
    Calls Tryz.prog 85 #[.int .i64 (n : Int)] w fun e w' => ∃ v, e = .returned v ∧ Own w' w.heap.size v (num4 n) ∧ Below w.heap.size w w' := by
  go_enter Tryz.func85, Tryz.ntmps85
  have ho := own_new7 w (num4 n) (by unfold maxLen; show 4 ≤ _; decide)
  have hb := (Below.refl w.heap.size w).alloc (Nat.le_refl _) (.cells ((num4 n).map v8).toArray 5)
  rw [num4_cells n hn] at ho hb
  go_wp2
  go_ret
  exact ⟨_, rfl, ho, hb⟩
set_option maxRecDepth 100000 in
theorem of7_any (x : Value) (bs : List UInt8) (w : World) (hS : Seg w x bs) (h4 : 4 ≤ bs.length) :
    Calls Tryz.prog 57 #[x] w fun e w' => e = .returned (.int .i64 (of4 bs : Int)) ∧ Below w.heap.size w w' := by
  obtain ⟨ab, cb, rfl⟩ := Seg.shapeD hS
  obtain ⟨b, off, rfl, hbc, hrow, hbl⟩ := hS.formD (by omega)
  have d : ∀ j, j < 4 → ∃ c : Int, w.cell? ⟨b, off + j, none⟩ = some (.int .u8 c) ∧ 0 ≤ c ∧ c < 256 ∧ ((bs.getD j 0).toNat : Int) = c := fun j hj => by
    have hl := (bs.getD j 0).toNat_lt
    refine ⟨((bs.getD j 0).toNat : Int), ?_, by omega, by omega, rfl⟩
    rw [hrow j (by omega)]
    simp [n8, show j < bs.length by omega]
  obtain ⟨c0, d0, a0, b0, e0⟩ := d 0 (by decide)
  obtain ⟨c1, d1, a1, b1, e1⟩ := d 1 (by decide)
  obtain ⟨c2, d2, a2, b2, e2⟩ := d 2 (by decide)
  obtain ⟨c3, d3, a3, b3, e3⟩ := d 3 (by decide)
  rw [Nat.add_zero] at d0
  have i0 := index7 b off bs.length cb 0 0 rfl (by omega)
  have i1 := index7 b off bs.length cb 1 1 rfl (by omega)
  have i2 := index7 b off bs.length cb 2 2 rfl (by omega)
  have i3 := index7 b off bs.length cb 3 3 rfl (by omega)
  have HO : Hid ((of4 bs : Int) = c0 + c1 * 256 + c2 * 65536 + c3 * 16777216) := by
    show _ = _
    unfold of4
    omega
  clear d e0 e1 e2 e3 hrow
  go_enter Tryz.func57, Tryz.ntmps57
  go_wp2_with fail
  go_still (by kernel_rfl)
  go_wp2
  go_ret
  rw [HO.out]
  refine ⟨?_, (Below.refl _ _).drew⟩
  show Ending.returned (.int .i64 (IntKind.i64.wrap (IntKind.i64.wrap (IntKind.i64.wrap (IntKind.i64.wrap c0 + IntKind.i64.wrap (IntKind.i64.wrap c1 * 256)) + IntKind.i64.wrap (IntKind.i64.wrap c2 * 65536)) + IntKind.i64.wrap (IntKind.i64.wrap c3 * 16777216)))) = _
  congr 2
  simp only [IntKind.wrap_i64]
  omega

set_option maxRecDepth 100000 in
set_option maxHeartbeats 1000000 in
theorem head7_any (n g m : Nat) (w : World) (hn : n < 4294967296) (hg : g < 4294967296) (hm : m < 4294967296) :
    Calls Tryz.prog 86 #[.int .i64 (n : Int), .int .i64 (g : Int), .int .i64 (m : Int)] w fun e w' => ∃ v, e = .returned v ∧ Own w' w.heap.size v (headB n g m) ∧ Below w.heap.size w w' := by
  have HN : Hid (∀ W, Calls Tryz.prog 85 #[.int .i64 (n : Int)] W fun e w' => ∃ v, e = .returned v ∧ Own w' W.heap.size v (num4 n) ∧ Below W.heap.size W w') := fun W => number7_any n W hn
  have HG : Hid (∀ W, Calls Tryz.prog 85 #[.int .i64 (g : Int)] W fun e w' => ∃ v, e = .returned v ∧ Own w' W.heap.size v (num4 g) ∧ Below W.heap.size W w') := fun W => number7_any g W hg
  have HM : Hid (∀ W, Calls Tryz.prog 85 #[.int .i64 (m : Int)] W fun e w' => ∃ v, e = .returned v ∧ Own w' W.heap.size v (num4 m) ∧ Below W.heap.size W w') := fun W => number7_any m W hm
  go_enter Tryz.func86, Tryz.ntmps86
  go_wp2_with fail
  refine (HN.out w).mono ?_
  rintro e w1 ⟨v9, rfl, ho1, hb1⟩
  go_wp2_with fail
  refine (HG.out w1).mono ?_
  rintro e w2 ⟨v11, rfl, ho2, hb2⟩
  have hB2 : Below w.heap.size w w2 := hb1.trans (hb2.mono hb1.size)
  have ho1' := ho1.below hb2 (Nat.le_refl _)
  go_wp2_with (at_builtin; refine app_own w2 rfl (.tmp 9) (.tmp 11) rfl w.heap.size v9 (num4 n) rfl ho1' v11 (num4 g) rfl ho2.seg (by show 4 + 4 ≤ _; decide) hB2.size ?_; intro v12 w3 ho3 hg3 hv3)
  have hB3 : Below w.heap.size w w3 := below_grown hB2 hg3 hB2.size (fun k hk => (ho1'.blocks k hk).1)
  refine (HM.out w3).mono ?_
  rintro e w4 ⟨v14, rfl, ho4, hb4⟩
  have hB4 : Below w.heap.size w w4 := hB3.trans (hb4.mono hB3.size)
  have ho3' := ho3.below hb4 (Nat.le_refl _)
  clear ho1 ho1' ho2 ho3 hv3 hg3
  go_wp2_with (first | (at_builtin; refine app_own w4 rfl (.tmp 12) (.tmp 14) rfl w.heap.size v12 (num4 n ++ num4 g) rfl ho3' v14 (num4 m) rfl ho4.seg (by show 8 + 4 ≤ _; decide) hB4.size ?_; intro v15 w5 ho5 hg5 hv5; have hB5 : Below w.heap.size w w5 := below_grown hB4 hg5 hB4.size (fun k hk => (ho3'.blocks k hk).1)) | (at_builtin; refine app_own _ rfl (.tmp 16) (.tmp 17) rfl w5.heap.size _ [] rfl (by exact own_emptyD _ _ _ rfl (Nat.le_refl _)) v15 (threeB n g m) rfl (by exact ho5.seg.alloc _) (by show 0 + 12 ≤ _; decide) (by simp) ?_; intro v18 w6 ho6 hg6 hv6; rw [List.nil_append] at ho6; have hB6 : Below w5.heap.size w5 w6 := below_grown ((Below.refl _ w5).alloc (Nat.le_refl _) _) hg6 (by simp) (fun q hq => by have h2 : w5.heap.size = q := Option.some.inj hq; omega)) | (at_builtin; refine app_own w6 rfl (.tmp 18) (.tmp 19) rfl w5.heap.size v18 (threeB n g m) rfl ho6 v15 (threeB n g m) rfl (by exact ho5.seg.below hB6 (Nat.le_refl _)) (by show 12 + 12 ≤ _; decide) hB6.size ?_; intro v20 w7 ho7 hg7 hv7))
  go_ret
  have hB7 : Below w5.heap.size w5 w7 := below_grown hB6 hg7 hB6.size (fun k hk => (ho6.blocks k hk).1)
  exact ⟨_, rfl, ho7.mono hB5.size, hB5.trans (hB7.mono hB5.size)⟩

set_option maxRecDepth 100000 in
set_option maxHeartbeats 1000000 in
theorem piece7_any (k : Nat) (x : Value) (bs : List UInt8) (w : World) (hk : k < 256) (hS : Seg w x bs) (hl : bs.length ≤ 100000000) :
    Calls Tryz.prog 63 #[.int .i64 (k : Int), x] w fun e w' => ∃ v, e = .returned v ∧ Own w' w.heap.size v (pieceB k bs) ∧ Below w.heap.size w w' := by
  obtain ⟨ab, cb, rfl⟩ := Seg.shapeD hS
  have HN : Hid (∀ W, Calls Tryz.prog 85 #[.int .i64 (bs.length : Int)] W fun e w' => ∃ v, e = .returned v ∧ Own w' W.heap.size v (num4 bs.length) ∧ Below W.heap.size W w') := fun W => number7_any bs.length W (by omega)
  have ho0 := own_new7 w [UInt8.ofNat k] (by unfold maxLen; show 1 ≤ _; decide)
  have hb0 := (Below.refl w.heap.size w).alloc (Nat.le_refl _) (.cells (([UInt8.ofNat k] : List UInt8).map v8).toArray 5)
  have ek : (([UInt8.ofNat k] : List UInt8).map v8).toArray = #[.int .u8 (k : Int)] := by show #[v8 (UInt8.ofNat k)] = _; rw [v8_ofNat k hk]
  rw [ek] at ho0 hb0
  have hS0 := hS.alloc (.cells #[.int .u8 (k : Int)] 5)
  go_enter Tryz.func63, Tryz.ntmps63
  go_wp2_with fail
  refine (HN.out _).mono ?_
  rintro e w2 ⟨v10, rfl, ho2, hb2⟩
  have hB2 : Below w.heap.size w w2 := hb0.trans (hb2.mono hb0.size)
  have ho0' := ho0.below hb2 (Nat.le_refl _)
  have hS2 := hS.below hB2 (Nat.le_refl _)
  go_wp2_with (first | (at_builtin; refine app_own w2 rfl (.tmp 7) (.tmp 10) rfl w.heap.size _ [UInt8.ofNat k] rfl ho0' v10 (num4 bs.length) rfl ho2.seg (by show 1 + 4 ≤ _; decide) hB2.size ?_; intro v11 w3 ho3 hg3 hv3; have hB3 : Below w.heap.size w w3 := below_grown hB2 hg3 hB2.size (fun q hq => (ho0'.blocks q hq).1)) | (at_builtin; refine app_own w3 rfl (.tmp 11) (.tmp 12) rfl w.heap.size v11 (UInt8.ofNat k :: num4 bs.length) rfl ho3 _ bs rfl (by exact hS.below hB3 (Nat.le_refl _)) (by show 5 + bs.length ≤ _; omega) hB3.size ?_; intro v13 w4 ho4 hg4 hv4))
  go_ret
  have hB4 : Below w.heap.size w w4 := below_grown hB3 hg4 hB3.size (fun q hq => (ho3.blocks q hq).1)
  exact ⟨_, rfl, ho4, hB4⟩
end Go.Proofs.YtojgeahablphbaaGreat
