/-
  What is proved here: sha.spreadBlock answers the 64 words of a block.
  Conditions: none on the block's bytes.
-/
import Derived.Test.YthophonofaaafaaDoorProg
import Derived.Test.YthophonofaaafaaDoorJShaSmall
import Derived.Deep.QuietTactic
import Derived.BigQuiet
import Derived.BigRegion
namespace Go.Proofs.YthophonofaaafaaDoor
open Go.RowKit
attribute [local go_sem] bits_or32 bits_and32 bits_xor32 add32 shr3 shr10

theorem slice_block (g off : Nat) (k1 k2 : IntKind) (l h : Int) (lo hi : Nat) (hl : l = (lo : Int)) (hh : h = (hi : Int)) (h1 : lo ≤ hi) (h2 : hi ≤ 64) (h3 : lo < 64) (w : World) :
    (Instr.sliceAt 99 (.pointer (some ⟨g, off, none⟩)) (some (.int k1 l)) (some (.int k2 h)) none).run Tryd.prog w = .ok (.slice (some ⟨g, off + lo, none⟩) (hi - lo) (64 - lo)) w := by
  subst hl; subst hh
  have ha : Tryd.prog.arrayLen 99 = 64 := by kernel_rfl
  have he : Tryd.prog.elem 99 = 5 := by kernel_rfl
  have hs : (sizeOf 5).run Tryd.prog w = .ok 1 w := by kernel_rfl
  rw [run_sliceAt_array_lh w 99 ⟨g, off, none⟩ (by rw [ha, he]; exact Tryd.underlying99) k1 k2 lo hi (by omega) (by omega) (by rw [ha]; omega), he, hs, ha]
  simp only [Result.andThen_ok, slicedAt, Int.toNat_natCast, Nat.mul_one, Addr.add_mid]
  rw [if_neg (by omega)]

abbrev schC (blk : List UInt8) (k : Nat) : Array Value := upTo 64 k (fun j => v32 (schW blk j)) (.int .u32 0)
theorem range_getD (l : List (BitVec 32)) (n : Nat) (h : l.length = n) : (List.range n).map (fun j => v32 (l.getD j 0#32)) = l.map v32 := by
  subst h
  apply List.ext_getElem
  · simp
  · intro i h1 h2
    simp at h1
    simp [h1]
theorem schC_full (blk : List UInt8) : schC blk 64 = ((sched blk 64).map v32).toArray := by
  have h := range_getD (sched blk 64) 64 (sched_len blk 64)
  show upTo 64 64 (fun j => v32 (schW blk j)) (.int .u32 0) = _
  rw [upTo_full]
  exact congrArg List.toArray h

set_option maxRecDepth 100000 in
set_option maxHeartbeats 1000000 in
theorem spread_any (blk : List UInt8) (h64 : blk.length = 64) (w : World) :
    Calls Tryd.prog 82 #[.agg (blk.map v8).toArray] w fun e w' => e = .returned (.agg ((sched blk 64).map v32).toArray) ∧ Below w.heap.size w w' := by
  go_enter Tryd.func82, Tryd.ntmps82
  go_wp2
  go_loopw [9] (fun i wr => ∃ k : Nat, k ≤ 64 ∧ i = .int .i64 k ∧ Blk wr w.heap.size 99 (blk.map v8).toArray ∧ Blk wr (w.heap.size + 1) 95 (schC blk 0) ∧ Blk wr (w.heap.size + 1 + 1) 95 (schC blk k) ∧ Below w.heap.size w wr) (fun i _ => 64 - (intOf i).toNat)
  case atStart =>
    exact ⟨0, by omega, rfl, ((Blk.new _ _ _).alloc _).alloc _, ((Blk.newAt _ _ _ _ (by simp)).alloc _).of_eq rfl, (Blk.newAt _ _ _ _ (by simp)).of_eq rfl, (((Below.refl _ _).alloc (Nat.le_refl _) _).alloc (by simp) _).alloc (by simp; omega) _⟩
  case round =>
    obtain ⟨k, hk, rfl, hb0, hb1, hb2, hbl⟩ := hrel
    by_cases hlt : k < 64
    · have hc2 := hb2.cell (j := k) (v := .int .u32 0) (by rw [upTo_at _ _ _ _ _ hlt, if_neg (Nat.lt_irrefl k)])
      have hfr := hb2.frozen k
      have hset := upTo_set 64 k (fun j => v32 (schW blk j)) (.int .u32 0)
      have R0 := hset ▸ hb2.set k (v32 (schW blk k))
      have R : ∀ n v, v = v32 (schW blk k) → Blk ((wr.drewN n).setCell ⟨w.heap.size + 1 + 1, k, none⟩ v) (w.heap.size + 1 + 1) 95 (schC blk (k + 1)) := fun n v hv => by subst hv; exact ((hb2.drewN n).set k _).of_eq hset
      clear hset
      by_cases h16 : k < 16
      · have hr : Row wr w.heap.size (4 * k) ((blk.drop (4 * k)).take 4) := by
          have := (hb0.row.drop (4 * k)).take 4
          rwa [Nat.zero_add] at this
        clear R
        have hw := word_form blk k
        rw [← schW_first blk k h16] at hw
        have hsl := fun w' => slice_block w.heap.size 0 .i64 .i64 (4 * (k : Int)) (4 * (k : Int) + 4) (4 * k) (4 * k + 4) (by simp) (by simp) (by omega) (by omega) (by omega) w'
        rw [show 4 * k + 4 - 4 * k = 4 by omega, Nat.zero_add] at hsl
        go_wp2_with (go_at_call 94; refine (number_any _ _ _ _ ((blk.drop (4 * k)).take 4) _ hr (by simp; omega) (by omega)).mono ?_; rintro e w' ⟨rfl, rfl⟩)
        go_roundw
        case rel => exact ⟨k + 1, by omega, by go_num, hb0.setOther _ _ (by simp; omega), hb1.setOther _ _ (by simp), R0, hbl.setCell (by simp; omega) _⟩
        case measure => simp [intOf]; omega
      · clear R0
        have cell : ∀ d, 0 < d → d ≤ 16 → wr.cell? ⟨w.heap.size + 1 + 1, k - d, none⟩ = some (v32 (schW blk (k - d))) := fun d h0 hd =>
          hb2.cell (by rw [upTo_at _ _ _ _ _ (by omega), if_pos (by omega)])
        have c15 := cell 15 (by omega) (by omega)
        have c2 := cell 2 (by omega) (by omega)
        have c7 := cell 7 (by omega) (by omega)
        have c16 := cell 16 (by omega) (by omega)
        have HN : Hid (schW blk k = sg1 (schW blk (k - 2)) + schW blk (k - 7) + sg0 (schW blk (k - 15)) + schW blk (k - 16)) := schW_next blk k (by omega) hlt
        have i15 : (15 : Int) ≤ (k : Int) := by omega
        have i16 : (16 : Int) ≤ (k : Int) := by omega
        have i64 : (k : Int) < 64 := by omega
        clear cell
        generalize schW blk (k - 15) = x15 at c15 HN
        generalize schW blk (k - 2) = x2 at c2 HN
        generalize schW blk (k - 7) = x7 at c7 HN
        generalize schW blk (k - 16) = x16 at c16 HN
        generalize schW blk k = xk at R HN
        have s3 := shr3 x15
        have s10 := shr10 x2
        go_wp2_with fail
        go_quiet (fail)
        go_wp2_with (go_at_call 95; refine (turn_any _ _ _ (by omega) (by omega)).mono ?_; rintro e w' ⟨rfl, rfl⟩)
        go_region
        go_wp2
        go_roundw
        case rel =>
          exact ⟨k + 1, by omega, by go_num, (hb0.drewN _).setOther _ _ (by simp; omega), (hb1.drewN _).setOther _ _ (by simp), R _ _ (congrArg v32 HN.out.symm), (Below.drewN hbl _).setCell (by simp; omega) _⟩
        case measure => simp [intOf]; omega
    · obtain rfl : k = 64 := by omega
      rw [schC_full] at hb2
      have hsz : ((sched blk 64).map v32).toArray.size = 64 := by simp [sched_len]
      have hst : (schC blk 0).size = ((sched blk 64).map v32).toArray.size := by rw [upTo_size, hsz]
      have hinfo : (Tryd.prog.info? 95).map (·.size) = some ((sched blk 64).map v32).toArray.size := by rw [hsz]; exact Tryd.info95s
      have hone := one32 (sched blk 64)
      have HB1 := hb1
      have HB2 := hb2
      clear hb1 hb2
      generalize hz : ((sched blk 64).map v32).toArray = res at *
      go_wp2_with (first | (refine wpList_load_row rfl 95 _ rfl (w.heap.size + 1 + 1) rfl 95 _ (0, 0) _ HB2 Tryd.underlying95 rfl hinfo ?_) | (refine wpList_store_row rfl 95 _ _ rfl (w.heap.size + 1) _ rfl rfl 95 _ HB1 hinfo hst hone ?_))
      refine bodyPost_ret (v := .agg res) (results_cell_row Tryd.results82 _ _ (w.heap.size + 1) 95 res (0, 0) _ rfl (HB1.setRow _) Tryd.underlying95 rfl hinfo) rfl ⟨ret_agg hz.symm, ?_⟩
      exact Below.setRow hbl _ _ (by omega)
end Go.Proofs.YthophonofaaafaaDoor
