/-
  What is proved here: outbox.numberFields makes the fields of an entry's numbers.
  Conditions: none.
-/
import Derived.Test.YtgoehohadnkpdaaDoorJBootPure
import Derived.Test.YtgoehohadnkpdaaDoorJNumFlds
namespace Go.Proofs.YtgoehohadnkpdaaDoor
open Go.RowKit

/-- One more field. -/
theorem fldX_more (w : World) (base k m : Nat) (v : Value) (hown : w.ownsRow base 127 4 v k (fldCs (outM.take k))) (hk : k < 6) (hm : outM.take (k + 1) = outM.take k ++ [m]) (hbase : base ≤ w.heap.size) : ∃ v' W', (∀ ty, (Builtin.append_ #[104, 104] ty #[v, .slice (some ⟨w.heap.size, 0, none⟩) 1 1]).run Tryd.prog (w.alloc (.cells #[.int .i64 1, .int .u64 0, .int .u64 (m : Int), .slice none 0 0] 127)) = .ok v' W') ∧ W'.ownsRow base 127 4 v' (k + 1) (fldCs (outM.take (k + 1))) ∧ ∀ {B : Nat} {w0 : World}, B ≤ base → Below B w0 w → B ≤ w.heap.size → Below B w0 W' := by
  have := app_one9 104 127 _ 4 48 under_flds9 info_fld9 rfl (by decide) (by decide) w base k v (fldCs (outM.take k)) (fldC9 m) hown rfl (one_fld m) (by omega) hbase
  rw [hm, ← fldCs_snoc]
  exact this

set_option maxRecDepth 100000 in
set_option maxHeartbeats 1000000 in
theorem fieldsX (w : World) : Calls Tryd.prog 52 #[] w fun e w' => ∃ v, e = .returned v ∧ Flds w' 1 v outF ∧ Below w.heap.size w w' := by
  go_enter Tryd.func52, Tryd.ntmps52
  go_wp2
  go_loopw [1, 5] (fun v i wr => ∃ k : Nat, k ≤ 5 ∧ i = .int .i64 k ∧ wr.ownsRow w.heap.size 127 4 v k (fldCs (outM.take k)) ∧ Below w.heap.size w wr) (fun _ i _ => 5 - (intOf i).toNat)
  case atStart => exact ⟨0, Nat.zero_le _, rfl, ⟨rfl, .inl ⟨rfl, rfl⟩⟩, Below.refl _ _⟩
  case round =>
    obtain ⟨k, hk, rfl, hown, hB⟩ := hrel
    by_cases hlt : k < 5
    · have hcases : k = 0 ∨ k = 1 ∨ k = 2 ∨ k = 3 ∨ k = 4 := by omega
      rcases hcases with rfl | rfl | rfl | rfl | rfl
      · obtain ⟨v', W', hr, ho, hb⟩ := fldX_more wr w.heap.size 0 1073741824 _ hown (by decide) rfl hB.size
        have HB := hb (Nat.le_refl _) hB hB.size
        have HO : Hid (W'.ownsRow w.heap.size 127 4 v' (0 + 1) (fldCs (outM.take (0 + 1)))) := ho
        have hix : ∀ w, (Instr.index 125 (.agg #[.int .u64 1073741824, .int .u64 1073741824, .int .u64 1073741824, .int .u64 1073741824, .int .u64 3]) (.int .i64 0)).run Tryd.prog w = .ok (.int .u64 1073741824) w := fun w => by kernel_rfl
        clear ho hb hown
        go_wp2_with (at_builtin; refine app_ran9 _ W' rfl _ _ 104 rfl _ _ v' rfl rfl hr ?_)
        go_roundw
        case rel => exact ⟨1, by decide, rfl, HO.out, HB⟩
        case measure => simp [intOf]
      · obtain ⟨v', W', hr, ho, hb⟩ := fldX_more wr w.heap.size 1 1073741824 _ hown (by decide) rfl hB.size
        have HB := hb (Nat.le_refl _) hB hB.size
        have HO : Hid (W'.ownsRow w.heap.size 127 4 v' (1 + 1) (fldCs (outM.take (1 + 1)))) := ho
        have hix : ∀ w, (Instr.index 125 (.agg #[.int .u64 1073741824, .int .u64 1073741824, .int .u64 1073741824, .int .u64 1073741824, .int .u64 3]) (.int .i64 1)).run Tryd.prog w = .ok (.int .u64 1073741824) w := fun w => by kernel_rfl
        clear ho hb hown
        go_wp2_with (at_builtin; refine app_ran9 _ W' rfl _ _ 104 rfl _ _ v' rfl rfl hr ?_)
        go_roundw
        case rel => exact ⟨2, by decide, rfl, HO.out, HB⟩
        case measure => simp [intOf]
      · obtain ⟨v', W', hr, ho, hb⟩ := fldX_more wr w.heap.size 2 1073741824 _ hown (by decide) rfl hB.size
        have HB := hb (Nat.le_refl _) hB hB.size
        have HO : Hid (W'.ownsRow w.heap.size 127 4 v' (2 + 1) (fldCs (outM.take (2 + 1)))) := ho
        have hix : ∀ w, (Instr.index 125 (.agg #[.int .u64 1073741824, .int .u64 1073741824, .int .u64 1073741824, .int .u64 1073741824, .int .u64 3]) (.int .i64 2)).run Tryd.prog w = .ok (.int .u64 1073741824) w := fun w => by kernel_rfl
        clear ho hb hown
        go_wp2_with (at_builtin; refine app_ran9 _ W' rfl _ _ 104 rfl _ _ v' rfl rfl hr ?_)
        go_roundw
        case rel => exact ⟨3, by decide, rfl, HO.out, HB⟩
        case measure => simp [intOf]
      · obtain ⟨v', W', hr, ho, hb⟩ := fldX_more wr w.heap.size 3 1073741824 _ hown (by decide) rfl hB.size
        have HB := hb (Nat.le_refl _) hB hB.size
        have HO : Hid (W'.ownsRow w.heap.size 127 4 v' (3 + 1) (fldCs (outM.take (3 + 1)))) := ho
        have hix : ∀ w, (Instr.index 125 (.agg #[.int .u64 1073741824, .int .u64 1073741824, .int .u64 1073741824, .int .u64 1073741824, .int .u64 3]) (.int .i64 3)).run Tryd.prog w = .ok (.int .u64 1073741824) w := fun w => by kernel_rfl
        clear ho hb hown
        go_wp2_with (at_builtin; refine app_ran9 _ W' rfl _ _ 104 rfl _ _ v' rfl rfl hr ?_)
        go_roundw
        case rel => exact ⟨4, by decide, rfl, HO.out, HB⟩
        case measure => simp [intOf]
      · obtain ⟨v', W', hr, ho, hb⟩ := fldX_more wr w.heap.size 4 3 _ hown (by decide) rfl hB.size
        have HB := hb (Nat.le_refl _) hB hB.size
        have HO : Hid (W'.ownsRow w.heap.size 127 4 v' (4 + 1) (fldCs (outM.take (4 + 1)))) := ho
        have hix : ∀ w, (Instr.index 125 (.agg #[.int .u64 1073741824, .int .u64 1073741824, .int .u64 1073741824, .int .u64 1073741824, .int .u64 3]) (.int .i64 4)).run Tryd.prog w = .ok (.int .u64 3) w := fun w => by kernel_rfl
        clear ho hb hown
        go_wp2_with (at_builtin; refine app_ran9 _ W' rfl _ _ 104 rfl _ _ v' rfl rfl hr ?_)
        go_roundw
        case rel => exact ⟨5, by decide, rfl, HO.out, HB⟩
        case measure => simp [intOf]
    · obtain rfl : k = 5 := by omega
      have HF := flds9_of (w := wr) outM (by decide) (by decide) (by decide) hown
      clear hown hlt hk
      go_wp2
      go_ret
      exact ⟨_, rfl, HF, hB⟩
end Go.Proofs.YtgoehohadnkpdaaDoor
