/-
  What is proved here: the statements' own first look, the hash of three letters, answers true.
  Conditions: the variables firstWords and roundWords hold the words of SHA-256.
-/
import Derived.Test.YtlihgfafjmhgjaaDoorShaSum
import Derived.Lib.SlBytesConst
namespace Go.Proofs.YtlihgfafjmhgjaaDoor
open Go.RowKit

theorem abc_first : (shaOf [97, 98, 99]).getD 0 0 = 186 := by decide +kernel
theorem abc_last : (shaOf [97, 98, 99]).getD 31 0 = 173 := by decide +kernel

set_option maxRecDepth 100000 in
set_option maxHeartbeats 1000000 in
theorem awake_any (w : World) (hgf : 0 < w.heap.size) (hf : Tab w 0 (St.start.list.map v32)) (hgk : 1 < w.heap.size) (hk : Tab w 1 (kWords.map v32)) :
    Calls Tryd.prog 7 #[] w fun e w' => e = .returned (.bool true) ∧ Below w.heap.size w w' := by
  have kc := fun (w : World) (C : Array Value) (n c : Nat) => Lib.run_convert_bytes_const (P := Tryd.prog) w 26 5 C n c Tryd.underlying26 Tryd.underlying5
  have hrow : Row (w.alloc (Obj.cells #[Value.int IntKind.u8 97, Value.int IntKind.u8 98, Value.int IntKind.u8 99] 5 (3, 4))) w.heap.size 0 [97, 98, 99] := fun j hj => by
    rw [Nat.zero_add, cell_of_row _ _ _ _ _ _ (heap_alloc_new w _)]
    obtain rfl | rfl | rfl : j = 0 ∨ j = 1 ∨ j = 2 := by simp at hj; omega
    all_goals rfl
  have hB1 := (Below.refl w.heap.size w).alloc (Nat.le_refl _) (Obj.cells #[Value.int IntKind.u8 97, Value.int IntKind.u8 98, Value.int IntKind.u8 99] 5 (3, 4))
  have hcall := sum_any (.slice (some ⟨w.heap.size, 0, none⟩) 3 3) [97, 98, 99] _ (Seg.of_row hrow rfl (Nat.le_refl _) (by simp)) (by decide) (by simp only [World.size_alloc]; omega) (hf.below hB1 hgf) (by simp only [World.size_alloc]; omega) (hk.below hB1 hgk)
  have h0 := abc_first
  have h31 := abc_last
  have hl : (shaOf [97, 98, 99]).length = 32 := wbytes_len _
  generalize shaOf [97, 98, 99] = SM at hcall h0 h31 hl
  have hi24 : (Tryd.prog.info? 34).map (·.size) = some (SM.map v8).toArray.size := by rw [List.size_toArray, List.length_map, hl]; exact Tryd.info34s
  have hone := one8 SM
  have a0 := at8 SM 0 (by omega)
  have a31 := at8 SM 31 (by omega)
  rw [h0] at a0
  rw [h31] at a31
  have HC : Hid (Calls Tryd.prog 16 #[.slice (some ⟨w.heap.size, 0, none⟩) 3 3] (w.alloc (Obj.cells #[Value.int IntKind.u8 97, Value.int IntKind.u8 98, Value.int IntKind.u8 99] 5 (3, 4))) fun e w' => e = .returned (.agg (SM.map v8).toArray) ∧ Below (w.alloc (Obj.cells #[Value.int IntKind.u8 97, Value.int IntKind.u8 98, Value.int IntKind.u8 99] 5 (3, 4))).heap.size (w.alloc (Obj.cells #[Value.int IntKind.u8 97, Value.int IntKind.u8 98, Value.int IntKind.u8 99] 5 (3, 4))) w') := hcall
  have HST : Hid ((upTo 32 0 (fun _ => Value.int .u8 0) (.int .u8 0)).size = (SM.map v8).toArray.size) := by show _ = _; rw [upTo_size, List.size_toArray, List.length_map, hl]
  clear hcall h0 h31 hl hrow
  generalize (SM.map v8).toArray = AR at HC hi24 hone a0 a31 HST
  go_enter Tryd.func7, Tryd.ntmps7
  go_wp2_with (first | (go_at_call 16; refine HC.out.mono ?_; rintro e w1 ⟨rfl, hb1⟩; clear kc HC) | (refine store_blk rfl 34 _ _ rfl rfl _ AR rfl rfl 34 _ (by exact Blk.new _ _ _) hi24 (by exact HST.out) hone ?_; intro w2 hb2 hg2 hs2; have c0 := hb2.cell (j := 0) a0; have c31 := hb2.cell (j := 31) a31))
  go_ret
  refine ⟨rfl, ?_⟩
  have hs1 := hb1.size
  exact below_grown ((hB1.trans (hb1.mono (by simp))).alloc (by simp at hs1; omega) _) hg2 (by simp at hs1 ⊢; omega) (fun q hq => by cases hq; simp at hs1; omega)
end Go.Proofs.YtlihgfafjmhgjaaDoor
