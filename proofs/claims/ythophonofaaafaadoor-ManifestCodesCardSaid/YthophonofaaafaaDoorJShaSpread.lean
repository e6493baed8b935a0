/-
  What is proved here: sha.spreadBlock answers the 64 words of a block. sha.take answers what becomes of eight words by a block. Write puts bytes behind, whatever was written before.
  Conditions: none on the block's bytes. the variable roundWords holds the words of the rounds. the hash lies at the beginning of a block of its own, apart from the bytes; the variable roundWords holds the words of the rounds; all lengths together stay below 2^60.
-/
import Derived.Test.YthophonofaaafaaDoorProg
import Derived.Test.YthophonofaaafaaDoorJShaSmall
import Derived.Deep.QuietTactic
import Derived.BigQuiet
import Derived.BigRegion
import Derived.Deep.RegionHeld3
import Derived.Deep.RegionLaw
import Derived.Test.YthophonofaaafaaDoorJCrcPure
namespace Go.Proofs.YthophonofaaafaaDoor
open Go.RowKit
attribute [local go_sem] bits_or32 bits_and32 bits_xor32 add32 shr3 shr10

theorem slice_block (g off : Nat) (k1 k2 : IntKind) (l h : Int) (lo hi : Nat) (hl : l = (lo : Int)) (hh : h = (hi : Int)) (h1 : lo ≤ hi) (h2 : hi ≤ 64) (h3 : lo < 64) (w : World) :
    (Instr.sliceAt 99 (.pointer (some ⟨g, off, none⟩)) (some (.int k1 l)) (some (.int k2 h)) none).run Tryd.prog w = .ok (.slice (some ⟨g, off + lo, none⟩) (hi - lo) (64 - lo)) w := by
  subst hl; subst hh
  have ha : Tryd.prog.arrayLen 99 = 64 := by kernel_rfl
  have he : Tryd.prog.elem 99 = 5 := by kernel_rfl
  have hs : (sizeOf 5).run Tryd.prog w = .ok 1 w := by kernel_rfl
  rw [run_sliceAt_array_lh w 99 ⟨g, off, none⟩ (by rw [ha, he]; exact Tryd.underlying99) k1 k2 lo hi (by omega) (by omega) (by rw [ha]; omega), he, hs, ha]
  simp only [Result.andThen_ok, slicedAt, Int.toNat_natCast, Nat.mul_one, Addr.add_mid]
  rw [if_neg (by omega)]

abbrev schC (blk : List UInt8) (k : Nat) : Array Value := upTo 64 k (fun j => v32 (schW blk j)) (.int .u32 0)
theorem range_getD (l : List (BitVec 32)) (n : Nat) (h : l.length = n) : (List.range n).map (fun j => v32 (l.getD j 0#32)) = l.map v32 := by
  subst h
  apply List.ext_getElem
  · simp
  · intro i h1 h2
    simp at h1
    simp [h1]
theorem schC_full (blk : List UInt8) : schC blk 64 = ((sched blk 64).map v32).toArray := by
  have h := range_getD (sched blk 64) 64 (sched_len blk 64)
  show upTo 64 64 (fun j => v32 (schW blk j)) (.int .u32 0) = _
  rw [upTo_full]
  exact congrArg List.toArray h

set_option maxRecDepth 100000 in
set_option maxHeartbeats 1000000 in
theorem spread_any (blk : List UInt8) (h64 : blk.length = 64) (w : World) :
    Calls Tryd.prog 82 #[.agg (blk.map v8).toArray] w fun e w' => e = .returned (.agg ((sched blk 64).map v32).toArray) ∧ Below w.heap.size w w' := by
  go_enter Tryd.func82, Tryd.ntmps82
  go_wp2
  go_loopw [9] (fun i wr => ∃ k : Nat, k ≤ 64 ∧ i = .int .i64 k ∧ Blk wr w.heap.size 99 (blk.map v8).toArray ∧ Blk wr (w.heap.size + 1) 95 (schC blk 0) ∧ Blk wr (w.heap.size + 1 + 1) 95 (schC blk k) ∧ Below w.heap.size w wr) (fun i _ => 64 - (intOf i).toNat)
  case atStart =>
    exact ⟨0, by omega, rfl, ((Blk.new _ _ _).alloc _).alloc _, ((Blk.newAt _ _ _ _ (by simp)).alloc _).of_eq rfl, (Blk.newAt _ _ _ _ (by simp)).of_eq rfl, (((Below.refl _ _).alloc (Nat.le_refl _) _).alloc (by simp) _).alloc (by simp; omega) _⟩
  case round =>
    obtain ⟨k, hk, rfl, hb0, hb1, hb2, hbl⟩ := hrel
    by_cases hlt : k < 64
    · have hc2 := hb2.cell (j := k) (v := .int .u32 0) (by rw [upTo_at _ _ _ _ _ hlt, if_neg (Nat.lt_irrefl k)])
      have hfr := hb2.frozen k
      have hset := upTo_set 64 k (fun j => v32 (schW blk j)) (.int .u32 0)
      have R0 := hset ▸ hb2.set k (v32 (schW blk k))
      have R : ∀ n v, v = v32 (schW blk k) → Blk ((wr.drewN n).setCell ⟨w.heap.size + 1 + 1, k, none⟩ v) (w.heap.size + 1 + 1) 95 (schC blk (k + 1)) := fun n v hv => by subst hv; exact ((hb2.drewN n).set k _).of_eq hset
      clear hset
      by_cases h16 : k < 16
      · have hr : Row wr w.heap.size (4 * k) ((blk.drop (4 * k)).take 4) := by
          have := (hb0.row.drop (4 * k)).take 4
          rwa [Nat.zero_add] at this
        clear R
        have hw := word_form blk k
        rw [← schW_first blk k h16] at hw
        have hsl := fun w' => slice_block w.heap.size 0 .i64 .i64 (4 * (k : Int)) (4 * (k : Int) + 4) (4 * k) (4 * k + 4) (by simp) (by simp) (by omega) (by omega) (by omega) w'
        rw [show 4 * k + 4 - 4 * k = 4 by omega, Nat.zero_add] at hsl
        go_wp2_with (go_at_call 94; refine (number_any _ _ _ _ ((blk.drop (4 * k)).take 4) _ hr (by simp; omega) (by omega)).mono ?_; rintro e w' ⟨rfl, rfl⟩)
        go_roundw
        case rel => exact ⟨k + 1, by omega, by go_num, hb0.setOther _ _ (by simp; omega), hb1.setOther _ _ (by simp), R0, hbl.setCell (by simp; omega) _⟩
        case measure => simp [intOf]; omega
      · clear R0
        have cell : ∀ d, 0 < d → d ≤ 16 → wr.cell? ⟨w.heap.size + 1 + 1, k - d, none⟩ = some (v32 (schW blk (k - d))) := fun d h0 hd =>
          hb2.cell (by rw [upTo_at _ _ _ _ _ (by omega), if_pos (by omega)])
        have c15 := cell 15 (by omega) (by omega)
        have c2 := cell 2 (by omega) (by omega)
        have c7 := cell 7 (by omega) (by omega)
        have c16 := cell 16 (by omega) (by omega)
        have HN : Hid (schW blk k = sg1 (schW blk (k - 2)) + schW blk (k - 7) + sg0 (schW blk (k - 15)) + schW blk (k - 16)) := schW_next blk k (by omega) hlt
        have i15 : (15 : Int) ≤ (k : Int) := by omega
        have i16 : (16 : Int) ≤ (k : Int) := by omega
        have i64 : (k : Int) < 64 := by omega
        clear cell
        generalize schW blk (k - 15) = x15 at c15 HN
        generalize schW blk (k - 2) = x2 at c2 HN
        generalize schW blk (k - 7) = x7 at c7 HN
        generalize schW blk (k - 16) = x16 at c16 HN
        generalize schW blk k = xk at R HN
        have s3 := shr3 x15
        have s10 := shr10 x2
        go_wp2_with fail
        go_quiet (fail)
        go_wp2_with (go_at_call 95; refine (turn_any _ _ _ (by omega) (by omega)).mono ?_; rintro e w' ⟨rfl, rfl⟩)
        go_region
        go_wp2
        go_roundw
        case rel =>
          exact ⟨k + 1, by omega, by go_num, (hb0.drewN _).setOther _ _ (by simp; omega), (hb1.drewN _).setOther _ _ (by simp), R _ _ (congrArg v32 HN.out.symm), (Below.drewN hbl _).setCell (by simp; omega) _⟩
        case measure => simp [intOf]; omega
    · obtain rfl : k = 64 := by omega
      rw [schC_full] at hb2
      have hsz : ((sched blk 64).map v32).toArray.size = 64 := by simp [sched_len]
      have hst : (schC blk 0).size = ((sched blk 64).map v32).toArray.size := by rw [upTo_size, hsz]
      have hinfo : (Tryd.prog.info? 95).map (·.size) = some ((sched blk 64).map v32).toArray.size := by rw [hsz]; exact Tryd.info95s
      have hone := one32 (sched blk 64)
      have HB1 := hb1
      have HB2 := hb2
      clear hb1 hb2
      generalize hz : ((sched blk 64).map v32).toArray = res at *
      go_wp2_with (first | (refine wpList_load_row rfl 95 _ rfl (w.heap.size + 1 + 1) rfl 95 _ (0, 0) _ HB2 Tryd.underlying95 rfl hinfo ?_) | (refine wpList_store_row rfl 95 _ _ rfl (w.heap.size + 1) _ rfl rfl 95 _ HB1 hinfo hst hone ?_))
      refine bodyPost_ret (v := .agg res) (results_cell_row Tryd.results82 _ _ (w.heap.size + 1) 95 res (0, 0) _ rfl (HB1.setRow _) Tryd.underlying95 rfl hinfo) rfl ⟨ret_agg hz.symm, ?_⟩
      exact Below.setRow hbl _ _ (by omega)
end Go.Proofs.YthophonofaaafaaDoor
namespace Go.Proofs.YthophonofaaafaaDoor
open Go.RowKit
attribute [local go_sem] bits_or32 bits_and32 bits_xor32 add32

theorem Tryd.info99s : (Tryd.prog.info? 99).map (·.size) = some 64 := by kernel_rfl

theorem idx_words (x0 x1 x2 x3 x4 x5 x6 x7 : BitVec 32) (k : Nat) (h : k < 8) (w : World) :
    (Instr.index 68 (.agg #[v32 x0, v32 x1, v32 x2, v32 x3, v32 x4, v32 x5, v32 x6, v32 x7]) (.int .i64 (k : Int))).run Tryd.prog w = .ok (v32 ([x0, x1, x2, x3, x4, x5, x6, x7].getD k 0#32)) w := by
  obtain rfl | rfl | rfl | rfl | rfl | rfl | rfl | rfl : k = 0 ∨ k = 1 ∨ k = 2 ∨ k = 3 ∨ k = 4 ∨ k = 5 ∨ k = 6 ∨ k = 7 := by omega
  all_goals kernel_rfl
theorem add_getD (s r : St) (k : Nat) (h : k < 8) : s.list.getD k 0#32 + r.list.getD k 0#32 = (s.add r).list.getD k 0#32 := by
  obtain rfl | rfl | rfl | rfl | rfl | rfl | rfl | rfl : k = 0 ∨ k = 1 ∨ k = 2 ∨ k = 3 ∨ k = 4 ∨ k = 5 ∨ k = 6 ∨ k = 7 := by omega
  all_goals rfl

set_option maxRecDepth 100000 in
set_option maxHeartbeats 1000000 in
theorem take_aux (s : St) (blk : List UInt8) (h64 : blk.length = 64) (ws : List (BitVec 32)) (hws : ws.length = 64) (w : World) (hg : 1 < w.heap.size) (hk : Tab w 1 (kWords.map v32))
    (hsp : ∀ w, Calls Tryd.prog 82 #[.agg (blk.map v8).toArray] w fun e w' => e = .returned (.agg (ws.map v32).toArray) ∧ Below w.heap.size w w') :
    Calls Tryd.prog 68 #[.agg (s.list.map v32).toArray, .agg (blk.map v8).toArray] w fun e w' => e = .returned (.agg ((s.add (rounds ws s 64)).list.map v32).toArray) ∧ Below w.heap.size w w' := by
  have HS : Hid (∀ w, Calls Tryd.prog 82 #[.agg (blk.map v8).toArray] w fun e w' => e = .returned (.agg (ws.map v32).toArray) ∧ Below w.heap.size w w') := hsp
  clear hsp
  have hi1 : (Tryd.prog.info? 99).map (·.size) = some (blk.map v8).toArray.size := by rw [List.size_toArray, List.length_map, h64]; exact Tryd.info99s
  have hi2 : (Tryd.prog.info? 95).map (·.size) = some (ws.map v32).toArray.size := by rw [List.size_toArray, List.length_map, hws]; exact Tryd.info95s
  have hone := one32 ws
  go_enter Tryd.func68, Tryd.ntmps68
  go_wp2_with (first | (refine wpList_load_row rfl 99 _ rfl (w.heap.size + 1) rfl 99 _ (0, 0) _ (by exact (Blk.newAt _ _ _ _ (by simp)).alloc _) Tryd.underlying99 rfl hi1 ?_) | (go_at_call 82; refine (HS.out _).mono ?_; rintro e w1 ⟨rfl, hb1⟩) | (refine store_blk rfl 95 _ _ rfl rfl _ _ rfl rfl 95 _ (by exact Blk.new _ _ _) hi2 ?hsz hone ?_))
  case hsz => simp [hws]
  intro w2 hbs hgr hsz2
  have hb1' := hb1.size
  simp only [World.size_alloc] at hb1' hsz2
  have hW : Blk w2 w.heap.size 68 (s.list.map v32).toArray := by
    refine (Blk.alloc (Blk.below ?_ hb1 (by simp; omega)) _).grown hgr (by simp; omega)
    exact ((Blk.new _ _ _).alloc _).alloc _
  have hR : Blk w2 (w.heap.size + 1 + 1) 68 (upTo 8 0 (fun _ => .int .u32 0) (.int .u32 0)) := by
    refine (Blk.alloc (Blk.below ?_ hb1 (by simp)) _).grown hgr (by simp; omega)
    exact (Blk.newAt _ _ _ _ (by simp)).of_eq rfl
  have hB : Below w.heap.size w w2 := by
    refine below_grown (B := w.heap.size) (Below.alloc (Below.trans ?_ (hb1.mono (by simp; omega))) (by omega) _) hgr (by simp; omega) (fun k h => by cases h; omega)
    exact (((Below.refl _ _).alloc (Nat.le_refl _) _).alloc (by simp) _).alloc (by simp; omega) _
  have hK := hk.below hB hg
  generalize w1.heap.size = g5 at *
  clear hgr hsz2 hb1 hone hi1 hi2 HS hk
  have c0 := hW.cell (j := 0) (v := v32 s.a) rfl
  have c1 := hW.cell (j := 1) (v := v32 s.b) rfl
  have c2 := hW.cell (j := 2) (v := v32 s.c) rfl
  have c3 := hW.cell (j := 3) (v := v32 s.d) rfl
  have c4 := hW.cell (j := 4) (v := v32 s.e) rfl
  have c5 := hW.cell (j := 5) (v := v32 s.f) rfl
  have c6 := hW.cell (j := 6) (v := v32 s.g) rfl
  have c7 := hW.cell (j := 7) (v := v32 s.h) rfl
  go_wp2_with fail
  go_quiet (fail)
  go_wp2_with fail
  go_quiet (fail)
  go_wp2_with fail
  clear c0 c1 c2 c3 c4 c5 c6 c7
  go_loopw [6, 7, 8, 9, 10, 11, 12, 13, 37] (fun a b c d e f g h i wr => ∃ k : Nat, k ≤ 64 ∧ i = .int .i64 k ∧ a = v32 (rounds ws s k).a ∧ b = v32 (rounds ws s k).b ∧ c = v32 (rounds ws s k).c ∧ d = v32 (rounds ws s k).d ∧ e = v32 (rounds ws s k).e ∧ f = v32 (rounds ws s k).f ∧ g = v32 (rounds ws s k).g ∧ h = v32 (rounds ws s k).h ∧ Blk wr w.heap.size 68 (s.list.map v32).toArray ∧ Blk wr (w.heap.size + 1 + 1) 68 (upTo 8 0 (fun _ => .int .u32 0) (.int .u32 0)) ∧ Blk wr g5 95 (ws.map v32).toArray ∧ Tab wr 1 (kWords.map v32) ∧ Below w.heap.size w wr) (fun _ _ _ _ _ _ _ _ i _ => 64 - (intOf i).toNat)
  case atStart => exact ⟨0, by omega, rfl, rfl, rfl, rfl, rfl, rfl, rfl, rfl, rfl, hW, hR, hbs, fun j v h => hK j v h, Below.drewN (Below.drewN hB _) _⟩
  case round =>
    obtain ⟨k, hk, rfl, rfl, rfl, rfl, rfl, rfl, rfl, rfl, rfl, hb0, hb1, hb2, hkk, hbl⟩ := hrel
    clear hW hR hB hbs hK
    by_cases hlt : k < 64
    · as_aux_lemma =>
      have cw := hb2.cell (at32 ws k (by omega))
      have ck := hkk k (v32 (kAt k)) (by simp [kAt, List.getD, show k < kWords.length by exact hlt])
      have HR : Hid (rounds ws s (k + 1) = (rounds ws s k).round (kAt k) (ws.getD k 0#32)) := rfl
      have i64 : (k : Int) < 64 := by omega
      generalize ws.getD k 0#32 = wk at cw HR
      generalize kAt k = kk at ck HR
      generalize rounds ws s k = r at *
      have hnot := not32 r.e
      go_wp2_with fail
      go_quiet ((go_at_call 83; exact Calls.quiet_of_same (turns_any _ _ _ _ _ (by omega) (by omega) (by omega) (by omega) (by omega) (by omega))))
      go_wp2_with (go_at_call 83; refine (turns_any _ _ _ _ _ (by omega) (by omega) (by omega) (by omega) (by omega) (by omega)).mono ?_; rintro e w' ⟨rfl, rfl⟩)
      go_roundw
      case rel =>
        refine ⟨k + 1, by omega, by go_num, ?_, ?_, ?_, ?_, ?_, ?_, ?_, ?_, hb0.drewN _, hb1.drewN _, hb2.drewN _, fun j v h => hkk j v h, Below.drewN hbl _⟩
        all_goals (rw [HR.out]; rfl)
      case measure => simp [intOf]; omega
    · obtain rfl : k = 64 := by omega
      clear hkk hb2
      generalize hr : rounds ws s 64 = r at *
      have HRR : Hid (rounds ws s 64 = r) := hr
      clear hr
      go_wp2
      go_loopw [97] (fun i wr => ∃ k : Nat, k ≤ 8 ∧ i = .int .i64 k ∧ Blk wr w.heap.size 68 (mixTo 8 k (fun j => v32 ((s.add r).list.getD j 0#32)) (fun j => v32 (s.list.getD j 0#32))) ∧ Blk wr (w.heap.size + 1 + 1) 68 (upTo 8 0 (fun _ => .int .u32 0) (.int .u32 0)) ∧ Below w.heap.size w wr) (fun i _ => 8 - (intOf i).toNat)
      case atStart => exact ⟨0, by omega, rfl, hb0.of_eq rfl, hb1, hbl⟩
      case round =>
        clear hb0 hb1 hbl hlt hk
        obtain ⟨k, hk, rfl, hb0, hb1, hbl⟩ := hrel
        by_cases hlt : k < 8
        · as_aux_lemma =>
          have hidx : ∀ w, (Instr.index 68 (.agg #[v32 r.a, v32 r.b, v32 r.c, v32 r.d, v32 r.e, v32 r.f, v32 r.g, v32 r.h]) (.int .i64 (k : Int))).run Tryd.prog w = .ok (v32 (r.list.getD k 0#32)) w := fun w => idx_words r.a r.b r.c r.d r.e r.f r.g r.h k hlt w
          have hc := hb0.cell (j := k) (v := v32 (s.list.getD k 0#32)) (by rw [mixTo_at _ _ _ _ _ hlt, if_neg (Nat.lt_irrefl k)])
          have hfr := hb0.frozen k
          have R := (hb0.set k (v32 ((s.add r).list.getD k 0#32))).of_eq (mixTo_set 8 k (fun j => v32 ((s.add r).list.getD j 0#32)) (fun j => v32 (s.list.getD j 0#32)))
          rw [← add_getD s r k hlt] at R
          have i8 : (k : Int) < 8 := by omega
          generalize s.list.getD k 0#32 = x at hc R
          generalize r.list.getD k 0#32 = y at hidx R
          go_wp2
          go_roundw
          case rel => exact ⟨k + 1, by omega, by go_num, R, hb1.setOther _ _ (by simp; omega), hbl.setCell (by simp) _⟩
          case measure => simp [intOf]; omega
        · as_aux_lemma =>
          obtain rfl : k = 8 := by omega
          have hb2 := hb0.of_eq (show _ = ((s.add r).list.map v32).toArray from rfl)
          have hsz : ((s.add r).list.map v32).toArray.size = 8 := rfl
          have hst : (upTo 8 0 (fun _ => Value.int .u32 0) (.int .u32 0)).size = ((s.add r).list.map v32).toArray.size := rfl
          have hinfo : (Tryd.prog.info? 68).map (·.size) = some ((s.add r).list.map v32).toArray.size := by rw [hsz]; exact Tryd.info68s
          have hone := one32 (s.add r).list
          have hres : ((s.add r).list.map v32).toArray = ((s.add (rounds ws s 64)).list.map v32).toArray := by rw [HRR.out]
          have HRES : Hid (((s.add r).list.map v32).toArray = ((s.add (rounds ws s 64)).list.map v32).toArray) := hres
          clear hres hb0 hsz
          generalize ((s.add r).list.map v32).toArray = res at hb2 hst hinfo hone HRES
          go_wp2_with (first | (refine wpList_load_row rfl 68 _ rfl w.heap.size rfl 68 _ (0, 0) _ hb2 Tryd.underlying68 rfl hinfo ?_) | (refine wpList_store_row rfl 68 _ _ rfl (w.heap.size + 1 + 1) _ rfl rfl 68 _ hb1 hinfo hst hone ?_))
          refine bodyPost_ret (v := .agg res) (results_cell_row Tryd.results68 _ _ (w.heap.size + 1 + 1) 68 res (0, 0) _ rfl (hb1.setRow _) Tryd.underlying68 rfl hinfo) rfl ⟨ret_agg HRES.out, ?_⟩
          exact Below.setRow hbl _ _ (by omega)

theorem take_any (s : St) (blk : List UInt8) (h64 : blk.length = 64) (w : World) (hg : 1 < w.heap.size) (hk : Tab w 1 (kWords.map v32)) :
    Calls Tryd.prog 68 #[.agg (s.list.map v32).toArray, .agg (blk.map v8).toArray] w fun e w' => e = .returned (.agg ((compress s blk).list.map v32).toArray) ∧ Below w.heap.size w w' :=
  take_aux s blk h64 (sched blk 64) (sched_len blk 64) w hg hk (fun w => spread_any blk h64 w)
end Go.Proofs.YthophonofaaafaaDoor
namespace Go.Proofs.YthophonofaaafaaDoor
open Go.RowKit

def sliceLen : Value → Nat
  | .slice _ n _ => n
  | _ => 0
theorem slice_part (g L q : Nat) (hq : q = L % 64) (w : World) :
    (Instr.sliceAt 99 (.pointer (some ⟨g, 8, none⟩)) (some (.int .u64 ((L : Int) % 64))) none none).run Tryd.prog w = .ok (.slice (some ⟨g, 8 + q, none⟩) (64 - q) (64 - q)) w := by
  have ha : Tryd.prog.arrayLen 99 = 64 := by kernel_rfl
  have he : Tryd.prog.elem 99 = 5 := by kernel_rfl
  have hs : (sizeOf 5).run Tryd.prog w = .ok 1 w := by kernel_rfl
  have hl : (L : Int) % 64 = (q : Int) := by omega
  rw [hl, run_sliceAt_array_l w 99 ⟨g, 8, none⟩ (by rw [ha, he]; exact Tryd.underlying99) .u64 q (by omega) (by rw [ha]; omega), he, hs, ha]
  simp only [Result.andThen_ok, slicedAt, Int.toNat_natCast, Nat.mul_one, Addr.add_mid]
  rw [if_neg (by omega)]

theorem slice_part' (g L q : Nat) (hq : q = L % 64) (w : World) :
    (Instr.sliceAt 99 (.pointer (some ⟨g, 8, none⟩)) (some (.int .u64 ((L : Int).tmod 64))) none none).run Tryd.prog w = .ok (.slice (some ⟨g, 8 + q, none⟩) (64 - q) (64 - q)) w := by
  rw [Int.tmod_eq_emod_of_nonneg (by omega)]; exact slice_part g L q hq w

theorem slice_bytes (b off r c n : Nat) (h1 : n ≤ r) (w : World) :
    (Instr.slice 22 (.slice (some ⟨b, off, none⟩) r c) (some (.int .i64 (n : Int))) none none).run Tryd.prog w = .ok (.slice (some (if c = n then ⟨b, off, none⟩ else ⟨b, off + n, none⟩)) (r - n) (c - n)) w := by
  have he : Tryd.prog.elem 22 = 5 := by kernel_rfl
  have hs : (sizeOf 5).run Tryd.prog w = .ok 1 w := by kernel_rfl
  rw [run_slice_l w 22 (some ⟨b, off, none⟩) r c (by rw [he]; exact Tryd.underlying22) .i64 n (by omega) (by omega), he, hs]
  simp only [Result.andThen_ok, sliced, Int.toNat_natCast, Nat.mul_one]
  by_cases h : c = n
  · rw [if_pos h, if_pos h]
  · rw [if_neg h, if_neg h, Option.map_some, Addr.add_mid]

theorem Tab.grown {w w' : World} {g : Nat} {vs : List Value} {row : Option Nat} (h : Tab w g vs) (hb : w.grownBy w' row) (hg : some g ≠ row) : Tab w' g vs := fun j v hv => hb.cell (h j v hv) hg

theorem grown_setCell (w : World) (g o : Nat) (v : Value) : w.grownBy (w.setCell ⟨g, o, none⟩ v) (some g) :=
  ⟨rfl, rfl, rfl, by simp, fun k _ hk => Below.heap_setCell w ⟨g, o, none⟩ v k (fun e => hk (by rw [e]))⟩
theorem next_bytes (w : World) (g b off c r n j : Nat) (bs : List UInt8) (hr : r = bs.length - j) (hj : j < bs.length) (hn0 : 0 < n) (hn : n ≤ r) (hc : r ≤ c) (hrow : Row w b off (bs.drop j)) (hbl : b < w.heap.size) (hbg : b ≠ g) (vn : Value)
    (hv : vn = Value.slice (some (if c = n then ⟨b, off, none⟩ else ⟨b, off + n, none⟩)) (r - n) (c - n)) :
    (j + n ≤ bs.length ∧ ((j + n < bs.length ∧ ∃ b off c, vn = .slice (some ⟨b, off, none⟩) (bs.length - (j + n)) c ∧ bs.length - (j + n) ≤ c ∧ Row w b off (bs.drop (j + n)) ∧ b < w.heap.size ∧ b ≠ g) ∨ (j + n = bs.length ∧ ∃ ao c, vn = .slice ao 0 c))) ∧ sliceLen vn < r := by
  refine ⟨⟨by omega, ?_⟩, by rw [hv]; show r - n < r; omega⟩
  by_cases h : n < r
  · refine .inl ⟨by omega, b, off + n, c - n, ?_, by omega, ?_, hbl, hbg⟩
    · rw [hv, if_neg (by omega), show r - n = bs.length - (j + n) by omega]
    · have := hrow.drop n
      rwa [List.drop_drop] at this
  · exact .inr ⟨by omega, _, c - n, by rw [hv, show r - n = 0 by omega]⟩
theorem hash_less (s : St) (d bs ch : List UInt8) (j q : Nat) (hch : ch = (bs.drop j).take (64 - q)) (hq : (restOf (d ++ bs.take j)).length = q) (hl : q + ch.length < 64) (L : Nat) :
    hashCells (wordsOf s (d ++ bs.take j)) (splice (pad64 (restOf (d ++ bs.take j))) q ch) L = hashCells (wordsOf s (d ++ bs.take (j + ch.length))) (pad64 (restOf (d ++ bs.take (j + ch.length)))) L := by
  have ht : bs.take (j + ch.length) = bs.take j ++ ch := by
    rw [List.take_add, hch]; congr 1
    rw [List.length_take, List.take_eq_take_iff]; omega
  have hd : (d ++ bs.take j).length % 64 = q := by rw [← restOf_len, hq]
  obtain ⟨h1, h2⟩ := write_less s (d ++ bs.take j) ch (by rw [hd]; exact hl)
  rw [ht, ← List.append_assoc, h1, h2, ← pad_splice _ _ (by rw [hq]; omega), hq]
theorem hash_full (s : St) (d bs ch : List UInt8) (j q : Nat) (hch : ch = (bs.drop j).take (64 - q)) (hq : (restOf (d ++ bs.take j)).length = q) (hl : q + ch.length = 64) (L : Nat) :
    hashCells (compress (wordsOf s (d ++ bs.take j)) (splice (pad64 (restOf (d ++ bs.take j))) q ch)) (List.replicate 64 0) L = hashCells (wordsOf s (d ++ bs.take (j + ch.length))) (pad64 (restOf (d ++ bs.take (j + ch.length)))) L := by
  have ht : bs.take (j + ch.length) = bs.take j ++ ch := by
    rw [List.take_add, hch]; congr 1
    rw [List.length_take, List.take_eq_take_iff]; omega
  have hd : (d ++ bs.take j).length % 64 = q := by rw [← restOf_len, hq]
  obtain ⟨h1, h2⟩ := write_full s (d ++ bs.take j) ch (by rw [hd]; exact hl)
  rw [ht, ← List.append_assoc, h1, h2]
  have := pad_splice (restOf (d ++ bs.take j)) ch (by rw [hq]; omega)
  rw [hq] at this
  rw [this, pad_full _ (by simp [hq, hl])]
  rfl

set_option maxRecDepth 100000 in
set_option maxHeartbeats 1000000 in
theorem write_any (g : Nat) (s : St) (d : List UInt8) (len : Nat) (x : Value) (bs : List UInt8) (w : World) (hh : HashAt w g s d len) (hmod : len % 64 = d.length % 64) (hseg : Seg w x bs) (hap : ∀ b off c n, x = .slice (some ⟨b, off, none⟩) n c → 0 < n → b ≠ g)
    (hlen : len + bs.length < 1152921504606846976) (hgk : 1 < g) (hk : Tab w 1 (kWords.map v32)) :
    Calls Tryd.prog 52 #[.pointer (some ⟨g, 0, none⟩), x] w fun e w' => e = .returned (.tuple #[]) ∧ HashAt w' g s (d ++ bs) (len + bs.length) ∧ w.grownBy w' (some g) := by
  go_enter Tryd.func52, Tryd.ntmps52
  go_wp2
  go_loopw [1] (fun v wr => ∃ j : Nat, j ≤ bs.length ∧ ((j < bs.length ∧ ∃ b off c, v = .slice (some ⟨b, off, none⟩) (bs.length - j) c ∧ bs.length - j ≤ c ∧ Row w b off (bs.drop j) ∧ b < w.heap.size ∧ b ≠ g) ∨ (j = bs.length ∧ ∃ ao c, v = .slice ao 0 c)) ∧ HashAt wr g s (d ++ bs.take j) (len + j) ∧ w.grownBy wr (some g)) (fun v _ => sliceLen v)
  case atStart =>
    refine ⟨0, Nat.zero_le _, ?_, by simpa using hh, ⟨rfl, rfl, rfl, Nat.le_refl _, fun _ _ _ => rfl⟩⟩
    rcases hseg with ⟨rfl, ao, c, rfl, _⟩ | ⟨b, off, c, rfl, hc, hr, hb⟩
    · exact .inr ⟨rfl, ao, c, rfl⟩
    · rcases Nat.eq_zero_or_pos bs.length with h0 | h0
      · exact .inr ⟨h0.symm, _, c, by rw [h0]⟩
      · exact .inl ⟨h0, b, off, c, rfl, hc, hr, hb, hap b off c _ rfl h0⟩
  case round =>
    obtain ⟨j, hj, hv, hH, hgr⟩ := hrel
    rcases hv with ⟨hlt, b, off, c, rfl, hcap, hrow, hbl, hbg⟩ | ⟨hj2, ao, c, rfl⟩
    · obtain ⟨L, hL⟩ : ∃ L, L = len + j := ⟨_, rfl⟩
      obtain ⟨q, hq⟩ : ∃ q, q = L % 64 := ⟨_, rfl⟩
      have hsl := slice_part g L q hq
      have hsl' := slice_part' g L q hq
      obtain ⟨r, hr⟩ : ∃ r, r = bs.length - j := ⟨_, rfl⟩
      have hH' := hH
      unfold HashAt at hH'
      have hrp : (restOf (d ++ bs.take j)).length = q := by rw [restOf_len, hq]; simp [show min j bs.length = j by omega]; omega
      have hpl := pad64_len _ (show (restOf (d ++ bs.take j)).length ≤ 64 by omega)
      rw [← hL] at hH'
      have hc72 := hH'.cell (j := 72) (v := .int .u64 (L : Int)) (by simp [hashCells, St.list, hpl])
      rw [← hr] at hcap
      rw [← hr]
      have hr0 : (0 : Int) < (r : Int) := by omega
      have hq64 : q < 64 := by omega
      have HR : Hid (r = bs.length - j) := hr
      have HQ : Hid (q = L % 64) := hq
      have HLL : Hid (L = len + j) := hL
      obtain ⟨ch, hch⟩ : ∃ ch, ch = (bs.drop j).take (64 - q) := ⟨_, rfl⟩
      have hchl : ch.length = min r (64 - q) := by rw [hch, hr]; simp [Nat.min_comm]
      have hrch : Row wr b off ch := by rw [hch]; exact (hrow.grown hgr (by simp; omega)).take _
      have HCH : Hid (ch = (bs.drop j).take (64 - q)) := hch
      have hcs := hash_copy (wordsOf s (d ++ bs.take j)) (pad64 (restOf (d ++ bs.take j))) ch L q hpl (by omega)
      have hsz := hash_size (wordsOf s (d ++ bs.take j)) (pad64 (restOf (d ++ bs.take j))) L hpl
      have hfit : 8 + q + ch.length ≤ (hashCells (wordsOf s (d ++ bs.take j)) (pad64 (restOf (d ++ bs.take j))) L).size := by rw [hsz]; omega
      have HC : Hid ((splice (hashCells (wordsOf s (d ++ bs.take j)) (pad64 (restOf (d ++ bs.take j))) L).toList (8 + q) (ch.map v8)).toArray = hashCells (wordsOf s (d ++ bs.take j)) (splice (pad64 (restOf (d ++ bs.take j))) q ch) L) := hcs
      have HL : Hid (ch.length = Nat.min r (64 - q)) := hchl
      have hn1 : ch.length ≤ r := by omega
      have hn2 : ch.length ≤ 64 - q := by omega
      have hL1 : L + ch.length < 1152921504606846976 := by omega
      have HPL : Hid ((pad64 (restOf (d ++ bs.take j))).length = 64) := hpl
      clear hr hq hch hL hcs hsz hchl hpl
      go_wp2_with fail
      go_region_law (refine step_copy rfl (.tmp 16) (.tmp 17) (by rfl) g (8 + q) (64 - q) (64 - q) b off r c (by rfl) (by rfl) _ 101 (by exact hH') ch HL.out (by exact hrch) hfit ?_; intro w2 hb2 hg2 hs2)
      replace hb2 := hb2.of_eq HC.out
      have hP : (splice (pad64 (restOf (d ++ bs.take j))) q ch).length = 64 := by rw [length_splice _ _ _ (by rw [HPL.out]; omega), HPL.out]
      have HLESS : Hid (q + ch.length < 64 → hashCells (wordsOf s (d ++ bs.take j)) (splice (pad64 (restOf (d ++ bs.take j))) q ch) (L + ch.length) = hashCells (wordsOf s (d ++ bs.take (j + ch.length))) (pad64 (restOf (d ++ bs.take (j + ch.length)))) (L + ch.length)) := fun h => hash_less s d bs ch j q HCH.out hrp h _
      have HFULL : Hid (q + ch.length = 64 → hashCells (compress (wordsOf s (d ++ bs.take j)) (splice (pad64 (restOf (d ++ bs.take j))) q ch)) (List.replicate 64 0) (L + ch.length) = hashCells (wordsOf s (d ++ bs.take (j + ch.length))) (pad64 (restOf (d ++ bs.take (j + ch.length)))) (L + ch.length)) := fun h => hash_full s d bs ch j q HCH.out hrp h _
      have hn0 : 0 < ch.length := by have := HL.out; rw [this]; exact Nat.lt_min.2 ⟨by omega, by omega⟩
      have hslb := slice_bytes b off r c ch.length hn1
      have HNX := next_bytes w g b off c r ch.length j bs HR.out hlt hn0 hn1 hcap hrow hbl hbg _ rfl
      obtain ⟨vn, hvn⟩ : ∃ vn, vn = Value.slice (some (if c = ch.length then ⟨b, off, none⟩ else ⟨b, off + ch.length, none⟩)) (r - ch.length) (c - ch.length) := ⟨_, rfl⟩
      rw [← hvn] at hslb HNX
      have HNXT : Hid ((j + ch.length ≤ bs.length ∧ ((j + ch.length < bs.length ∧ ∃ b off c, vn = .slice (some ⟨b, off, none⟩) (bs.length - (j + ch.length)) c ∧ bs.length - (j + ch.length) ≤ c ∧ Row w b off (bs.drop (j + ch.length)) ∧ b < w.heap.size ∧ b ≠ g) ∨ (j + ch.length = bs.length ∧ ∃ ao c, vn = .slice ao 0 c))) ∧ sliceLen vn < r) := HNX
      clear hvn HNX hH' hc72 hsl hsl' hfit hrch HCH HC hrp HPL
      generalize wordsOf s (d ++ bs.take j) = W0 at hb2 HLESS HFULL
      generalize splice (pad64 (restOf (d ++ bs.take j))) q ch = P1 at hb2 hP HLESS HFULL
      have c72 := hb2.cell (j := 72) (v := .int .u64 (L : Int)) (by simp [hashCells, St.list, hP])
      have f72 := hb2.frozen 72
      have HT : Hid (L % 64 = q ∧ ch.length = min r (64 - q) ∧ L = len + j) := ⟨HQ.out.symm, HL.out, HLL.out⟩
      clear HQ HL HLL
      generalize ch.length = n at *
      have R72 : Blk (w2.setCell ⟨g, 72, none⟩ (.int .u64 ((L : Int) + (n : Int)))) g 101 (hashCells W0 P1 (L + n)) := by
        have := (hb2.set 72 (.int .u64 ((L + n : Nat) : Int))).of_eq (hash_len W0 P1 L (L + n) hP)
        rwa [Int.natCast_add] at this
      replace hg2 : wr.grownBy w2 (some g) := ⟨hg2.os, hg2.tape, hg2.output, hg2.size, hg2.block⟩
      have hT2 : Tab w2 1 (kWords.map v32) := (hk.grown hgr (by simp; omega)).grown hg2 (by simp; omega)
      have hG2 : w.grownBy w2 (some g) := grown_transB hgr hg2
      by_cases hful : q + n = 64
      · have ht : (((L : Int) + (n : Int)) % 64 == 0) = true := by have e := HT.out.1; rw [beq_iff_eq]; omega
        have hW : w2.heap.size = (w2.setCell ⟨g, 72, none⟩ (.int .u64 ((L : Int) + (n : Int)))).heap.size := by simp
        have hT3 : Tab (w2.setCell ⟨g, 72, none⟩ (.int .u64 ((L : Int) + (n : Int)))) 1 (kWords.map v32) := hT2.grown (grown_setCell _ _ _ _) (by simp; omega)
        have hG3 : w.grownBy (w2.setCell ⟨g, 72, none⟩ (.int .u64 ((L : Int) + (n : Int)))) (some g) := grown_transB hG2 (grown_setCell _ _ _ _)
        go_wp2_with fail
        generalize w2.setCell ⟨g, 72, none⟩ (.int .u64 ((L : Int) + (n : Int))) = w3 at *
        have hgl := R72.lt
        have hi : (Tryd.prog.info? 99).map (·.size) = some (P1.map v8).length := by rw [List.length_map, hP]; exact Tryd.info99s
        have hl1 : (P1.map v8).length = 64 := by rw [List.length_map, hP]
        have HTK : Hid (∀ W : World, 1 < W.heap.size → Tab W 1 (kWords.map v32) → Calls Tryd.prog 68 #[.agg (W0.list.map v32).toArray, .agg (P1.map v8).toArray] W fun e w' => e = .returned (.agg ((compress W0 P1).list.map v32).toArray) ∧ Below W.heap.size W w') := fun W h1 h2 => take_any W0 P1 hP W h1 h2
        generalize compress W0 P1 = W1 at HTK HFULL
        clear hb2 hg2 hs2 hT2 hG2 hW f72 c72 HLESS hH hh hseg hap
        have rW := (Blk.drew R72).range 0 _ (hash_words_at W0 P1 _)
        have rP := (Blk.drew R72).range 8 _ (hash_part_at W0 P1 _)
        refine wp_region_noPanic (wp_region_any (by kernel_rfl) ?_)
        show wpAny _ _ _ _ 13 (Array.replicate 13 false) _ w3.drew
        refine any_take 0 37 _ (.pointer (some ⟨g, 0, none⟩)) rfl rfl (by kernel_rfl) (by kernel_rfl) (by kernel_rfl) rfl (fun w => by kernel_rfl) ?_
        refine any_take 1 38 _ (.pointer (some ⟨g, 0, none⟩)) rfl rfl (by kernel_rfl) (by kernel_rfl) (by kernel_rfl) rfl (fun w => by kernel_rfl) ?_
        refine any_take 2 39 _ (.pointer (some ⟨g, 0, none⟩)) rfl rfl (by kernel_rfl) (by kernel_rfl) (by kernel_rfl) rfl (fun w => by kernel_rfl) ?_
        refine any_take 3 40 _ (.pointer (some ⟨g, 0, none⟩)) rfl rfl (by kernel_rfl) (by kernel_rfl) (by kernel_rfl) rfl (fun w => by kernel_rfl) ?_
        refine any_take 5 42 _ (.pointer (some ⟨g, 0, none⟩)) rfl rfl (by kernel_rfl) (by kernel_rfl) (by kernel_rfl) rfl (fun w => by kernel_rfl) ?_
        refine any_take 6 43 _ (.pointer (some ⟨g, 0, none⟩)) rfl rfl (by kernel_rfl) (by kernel_rfl) (by kernel_rfl) rfl (fun w => by kernel_rfl) ?_
        refine any_take 7 44 _ (.pointer (some ⟨g, 8, none⟩)) rfl rfl (by kernel_rfl) (by kernel_rfl) (by kernel_rfl) rfl (fun w => by kernel_rfl) ?_
        simp only [Act.put, List.setIfInBounds_toArray, List.set_cons_succ, List.set_cons_zero]
        refine any_two 4 8 41 45 _ _ (.agg (W0.list.map v32).toArray) (.agg (P1.map v8).toArray) rfl rfl rfl rfl rfl rfl (by kernel_rfl) (by kernel_rfl) (by kernel_rfl) ?r1 ?r2 ?r3 ?r4 (by kernel_rfl) ?hp ?_
        case r1 => exact exec_load 68 _ rfl g 0 rfl _ _ rW Tryd.underlying68 rfl Tryd.info68s
        case r2 => exact exec_load 99 _ rfl g 8 rfl _ _ rP Tryd.underlying99 rfl hi
        case r3 => exact exec_load 99 _ rfl g 8 rfl _ _ rP Tryd.underlying99 rfl hi
        case r4 => exact exec_load 68 _ rfl g 0 rfl _ _ rW Tryd.underlying68 rfl Tryd.info68s
        case hp => rfl
        simp only [Act.put, List.setIfInBounds_toArray, List.set_cons_succ, List.set_cons_zero]
        refine any_tail 9 (by kernel_rfl) (by kernel_rfl) ?_
        simp only [List.drop_succ_cons, List.drop_zero]
        have HWW : Hid ((splice (hashCells W0 P1 (L + n)).toList 0 (W1.list.map v32).toArray.toList).toArray = hashCells W1 P1 (L + n)) := hash_words_splice W0 W1 P1 (L + n)
        have HPP : Hid ((splice (hashCells W1 P1 (L + n)).toList 8 (((List.replicate 64 (0 : UInt8)).map v8).toArray).toList).toArray = hashCells W1 (List.replicate 64 0) (L + n)) := hash_part W1 P1 (List.replicate 64 0) (L + n) hP (by simp)
        have HF1 : Hid (0 + (W1.list.map v32).toArray.size ≤ (hashCells W0 P1 (L + n)).size) := by show _ ≤ _; rw [hash_size _ _ _ hP]; show 0 + 8 ≤ 73; omega
        have HF2 : Hid (8 + ((List.replicate 64 (0 : UInt8)).map v8).toArray.size ≤ (hashCells W1 P1 (L + n)).size) := by show _ ≤ _; rw [hash_size _ _ _ hP]; show 8 + 64 ≤ 73; omega
        go_wp2_with (first | (go_at_call 68; refine (HTK.out _ (by exact Nat.lt_trans hgk hgl) (by exact hT3)).mono ?_; rintro e w4 ⟨rfl, hb4⟩) | (refine store_mid rfl 68 _ _ rfl rfl g 0 (W1.list.map v32).toArray rfl rfl 101 _ (by exact Blk.below (Blk.drew R72) hb4 hgl) Tryd.info68s (by exact HF1.out) (one32 W1.list) ?_; intro w5 hb5 hg5 hs5; replace hb5 := hb5.of_eq HWW.out))
        refine NoPanic.normal ?_
        go_wp2_with (refine store_mid rfl 99 _ _ rfl rfl g 8 ((List.replicate 64 (0 : UInt8)).map v8).toArray rfl (by rfl) 101 _ (by exact hb5) Tryd.info99s (by exact HF2.out) (one8 _) ?_; intro w6 hb6 hg6 hs6; replace hb6 := hb6.of_eq HPP.out)
        go_roundw
        case rel =>
          obtain ⟨⟨h1, h2⟩, h3⟩ := HNXT.out
          refine ⟨j + n, h1, h2, ?_, ?_⟩
          · have e : len + (j + n) = L + n := by rw [HT.out.2.2]; omega
            unfold HashAt
            rw [e]
            exact hb6.of_eq (HFULL.out hful)
          · have g4 : w3.grownBy w4 (some g) := ⟨hb4.os, hb4.tape, hb4.output, hb4.size, fun k hk _ => hb4.block k hk⟩
            exact grown_transB (grown_transB (grown_transB hG3 g4) hg5) hg6
        case measure => exact HNXT.out.2
      · have ht : (((L : Int) + (n : Int)) % 64 == 0) = false := by have e := HT.out.1; rw [beq_eq_false_iff_ne]; omega
        go_wp2_with fail
        go_roundw
        case rel =>
          obtain ⟨⟨h1, h2⟩, h3⟩ := HNXT.out
          refine ⟨j + n, h1, h2, ?_, grown_transB hG2 (grown_setCell _ _ _ _)⟩
          have hc := HLESS.out (Nat.lt_of_le_of_ne (by omega) hful)
          have := R72.of_eq hc
          have e : len + (j + n) = L + n := by rw [HT.out.2.2]; omega
          unfold HashAt
          rw [e]
          exact this
        case measure => exact HNXT.out.2
    · go_wp2
      go_end0
      refine ⟨rfl, ?_, hgr⟩
      rw [hj2, List.take_length] at hH
      exact hH
end Go.Proofs.YthophonofaaafaaDoor
