/-
  What is proved here: sha.take answers what becomes of eight words by a block.
  Conditions: the variable roundWords holds the words of the rounds.
-/
import Derived.Test.YthophonofaaafaaDoorProg
import Derived.Test.YthophonofaaafaaDoorJShaSpread
namespace Go.Proofs.YthophonofaaafaaDoor
open Go.RowKit
attribute [local go_sem] bits_or32 bits_and32 bits_xor32 add32

theorem Tryd.info99s : (Tryd.prog.info? 99).map (·.size) = some 64 := by kernel_rfl

theorem idx_words (x0 x1 x2 x3 x4 x5 x6 x7 : BitVec 32) (k : Nat) (h : k < 8) (w : World) :
    (Instr.index 68 (.agg #[v32 x0, v32 x1, v32 x2, v32 x3, v32 x4, v32 x5, v32 x6, v32 x7]) (.int .i64 (k : Int))).run Tryd.prog w = .ok (v32 ([x0, x1, x2, x3, x4, x5, x6, x7].getD k 0#32)) w := by
  obtain rfl | rfl | rfl | rfl | rfl | rfl | rfl | rfl : k = 0 ∨ k = 1 ∨ k = 2 ∨ k = 3 ∨ k = 4 ∨ k = 5 ∨ k = 6 ∨ k = 7 := by omega
  all_goals kernel_rfl
theorem add_getD (s r : St) (k : Nat) (h : k < 8) : s.list.getD k 0#32 + r.list.getD k 0#32 = (s.add r).list.getD k 0#32 := by
  obtain rfl | rfl | rfl | rfl | rfl | rfl | rfl | rfl : k = 0 ∨ k = 1 ∨ k = 2 ∨ k = 3 ∨ k = 4 ∨ k = 5 ∨ k = 6 ∨ k = 7 := by omega
  all_goals rfl

set_option maxRecDepth 100000 in
set_option maxHeartbeats 1000000 in
theorem take_aux (s : St) (blk : List UInt8) (h64 : blk.length = 64) (ws : List (BitVec 32)) (hws : ws.length = 64) (w : World) (hg : 1 < w.heap.size) (hk : Tab w 1 (kWords.map v32))
    (hsp : ∀ w, Calls Tryd.prog 82 #[.agg (blk.map v8).toArray] w fun e w' => e = .returned (.agg (ws.map v32).toArray) ∧ Below w.heap.size w w') :
    Calls Tryd.prog 68 #[.agg (s.list.map v32).toArray, .agg (blk.map v8).toArray] w fun e w' => e = .returned (.agg ((s.add (rounds ws s 64)).list.map v32).toArray) ∧ Below w.heap.size w w' := by
  have HS : Hid (∀ w, Calls Tryd.prog 82 #[.agg (blk.map v8).toArray] w fun e w' => e = .returned (.agg (ws.map v32).toArray) ∧ Below w.heap.size w w') := hsp
  clear hsp
  have hi1 : (Tryd.prog.info? 99).map (·.size) = some (blk.map v8).toArray.size := by rw [List.size_toArray, List.length_map, h64]; exact Tryd.info99s
  have hi2 : (Tryd.prog.info? 95).map (·.size) = some (ws.map v32).toArray.size := by rw [List.size_toArray, List.length_map, hws]; exact Tryd.info95s
  have hone := one32 ws
  go_enter Tryd.func68, Tryd.ntmps68
  go_wp2_with (first | (refine wpList_load_row rfl 99 _ rfl (w.heap.size + 1) rfl 99 _ (0, 0) _ (by exact (Blk.newAt _ _ _ _ (by simp)).alloc _) Tryd.underlying99 rfl hi1 ?_) | (go_at_call 82; refine (HS.out _).mono ?_; rintro e w1 ⟨rfl, hb1⟩) | (refine store_blk rfl 95 _ _ rfl rfl _ _ rfl rfl 95 _ (by exact Blk.new _ _ _) hi2 ?hsz hone ?_))
  case hsz => simp [hws]
  intro w2 hbs hgr hsz2
  have hb1' := hb1.size
  simp only [World.size_alloc] at hb1' hsz2
  have hW : Blk w2 w.heap.size 68 (s.list.map v32).toArray := by
    refine (Blk.alloc (Blk.below ?_ hb1 (by simp; omega)) _).grown hgr (by simp; omega)
    exact ((Blk.new _ _ _).alloc _).alloc _
  have hR : Blk w2 (w.heap.size + 1 + 1) 68 (upTo 8 0 (fun _ => .int .u32 0) (.int .u32 0)) := by
    refine (Blk.alloc (Blk.below ?_ hb1 (by simp)) _).grown hgr (by simp; omega)
    exact (Blk.newAt _ _ _ _ (by simp)).of_eq rfl
  have hB : Below w.heap.size w w2 := by
    refine below_grown (B := w.heap.size) (Below.alloc (Below.trans ?_ (hb1.mono (by simp; omega))) (by omega) _) hgr (by simp; omega) (fun k h => by cases h; omega)
    exact (((Below.refl _ _).alloc (Nat.le_refl _) _).alloc (by simp) _).alloc (by simp; omega) _
  have hK := hk.below hB hg
  generalize w1.heap.size = g5 at *
  clear hgr hsz2 hb1 hone hi1 hi2 HS hk
  have c0 := hW.cell (j := 0) (v := v32 s.a) rfl
  have c1 := hW.cell (j := 1) (v := v32 s.b) rfl
  have c2 := hW.cell (j := 2) (v := v32 s.c) rfl
  have c3 := hW.cell (j := 3) (v := v32 s.d) rfl
  have c4 := hW.cell (j := 4) (v := v32 s.e) rfl
  have c5 := hW.cell (j := 5) (v := v32 s.f) rfl
  have c6 := hW.cell (j := 6) (v := v32 s.g) rfl
  have c7 := hW.cell (j := 7) (v := v32 s.h) rfl
  go_wp2_with fail
  go_quiet (fail)
  go_wp2_with fail
  go_quiet (fail)
  go_wp2_with fail
  clear c0 c1 c2 c3 c4 c5 c6 c7
  go_loopw [6, 7, 8, 9, 10, 11, 12, 13, 37] (fun a b c d e f g h i wr => ∃ k : Nat, k ≤ 64 ∧ i = .int .i64 k ∧ a = v32 (rounds ws s k).a ∧ b = v32 (rounds ws s k).b ∧ c = v32 (rounds ws s k).c ∧ d = v32 (rounds ws s k).d ∧ e = v32 (rounds ws s k).e ∧ f = v32 (rounds ws s k).f ∧ g = v32 (rounds ws s k).g ∧ h = v32 (rounds ws s k).h ∧ Blk wr w.heap.size 68 (s.list.map v32).toArray ∧ Blk wr (w.heap.size + 1 + 1) 68 (upTo 8 0 (fun _ => .int .u32 0) (.int .u32 0)) ∧ Blk wr g5 95 (ws.map v32).toArray ∧ Tab wr 1 (kWords.map v32) ∧ Below w.heap.size w wr) (fun _ _ _ _ _ _ _ _ i _ => 64 - (intOf i).toNat)
  case atStart => exact ⟨0, by omega, rfl, rfl, rfl, rfl, rfl, rfl, rfl, rfl, rfl, hW, hR, hbs, fun j v h => hK j v h, Below.drewN (Below.drewN hB _) _⟩
  case round =>
    obtain ⟨k, hk, rfl, rfl, rfl, rfl, rfl, rfl, rfl, rfl, rfl, hb0, hb1, hb2, hkk, hbl⟩ := hrel
    clear hW hR hB hbs hK
    by_cases hlt : k < 64
    · as_aux_lemma =>
      have cw := hb2.cell (at32 ws k (by omega))
      have ck := hkk k (v32 (kAt k)) (by simp [kAt, List.getD, show k < kWords.length by exact hlt])
      have HR : Hid (rounds ws s (k + 1) = (rounds ws s k).round (kAt k) (ws.getD k 0#32)) := rfl
      have i64 : (k : Int) < 64 := by omega
      generalize ws.getD k 0#32 = wk at cw HR
      generalize kAt k = kk at ck HR
      generalize rounds ws s k = r at *
      have hnot := not32 r.e
      go_wp2_with fail
      go_quiet ((go_at_call 83; exact Calls.quiet_of_same (turns_any _ _ _ _ _ (by omega) (by omega) (by omega) (by omega) (by omega) (by omega))))
      go_wp2_with (go_at_call 83; refine (turns_any _ _ _ _ _ (by omega) (by omega) (by omega) (by omega) (by omega) (by omega)).mono ?_; rintro e w' ⟨rfl, rfl⟩)
      go_roundw
      case rel =>
        refine ⟨k + 1, by omega, by go_num, ?_, ?_, ?_, ?_, ?_, ?_, ?_, ?_, hb0.drewN _, hb1.drewN _, hb2.drewN _, fun j v h => hkk j v h, Below.drewN hbl _⟩
        all_goals (rw [HR.out]; rfl)
      case measure => simp [intOf]; omega
    · obtain rfl : k = 64 := by omega
      clear hkk hb2
      generalize hr : rounds ws s 64 = r at *
      have HRR : Hid (rounds ws s 64 = r) := hr
      clear hr
      go_wp2
      go_loopw [97] (fun i wr => ∃ k : Nat, k ≤ 8 ∧ i = .int .i64 k ∧ Blk wr w.heap.size 68 (mixTo 8 k (fun j => v32 ((s.add r).list.getD j 0#32)) (fun j => v32 (s.list.getD j 0#32))) ∧ Blk wr (w.heap.size + 1 + 1) 68 (upTo 8 0 (fun _ => .int .u32 0) (.int .u32 0)) ∧ Below w.heap.size w wr) (fun i _ => 8 - (intOf i).toNat)
      case atStart => exact ⟨0, by omega, rfl, hb0.of_eq rfl, hb1, hbl⟩
      case round =>
        clear hb0 hb1 hbl hlt hk
        obtain ⟨k, hk, rfl, hb0, hb1, hbl⟩ := hrel
        by_cases hlt : k < 8
        · as_aux_lemma =>
          have hidx : ∀ w, (Instr.index 68 (.agg #[v32 r.a, v32 r.b, v32 r.c, v32 r.d, v32 r.e, v32 r.f, v32 r.g, v32 r.h]) (.int .i64 (k : Int))).run Tryd.prog w = .ok (v32 (r.list.getD k 0#32)) w := fun w => idx_words r.a r.b r.c r.d r.e r.f r.g r.h k hlt w
          have hc := hb0.cell (j := k) (v := v32 (s.list.getD k 0#32)) (by rw [mixTo_at _ _ _ _ _ hlt, if_neg (Nat.lt_irrefl k)])
          have hfr := hb0.frozen k
          have R := (hb0.set k (v32 ((s.add r).list.getD k 0#32))).of_eq (mixTo_set 8 k (fun j => v32 ((s.add r).list.getD j 0#32)) (fun j => v32 (s.list.getD j 0#32)))
          rw [← add_getD s r k hlt] at R
          have i8 : (k : Int) < 8 := by omega
          generalize s.list.getD k 0#32 = x at hc R
          generalize r.list.getD k 0#32 = y at hidx R
          go_wp2
          go_roundw
          case rel => exact ⟨k + 1, by omega, by go_num, R, hb1.setOther _ _ (by simp; omega), hbl.setCell (by simp) _⟩
          case measure => simp [intOf]; omega
        · as_aux_lemma =>
          obtain rfl : k = 8 := by omega
          have hb2 := hb0.of_eq (show _ = ((s.add r).list.map v32).toArray from rfl)
          have hsz : ((s.add r).list.map v32).toArray.size = 8 := rfl
          have hst : (upTo 8 0 (fun _ => Value.int .u32 0) (.int .u32 0)).size = ((s.add r).list.map v32).toArray.size := rfl
          have hinfo : (Tryd.prog.info? 68).map (·.size) = some ((s.add r).list.map v32).toArray.size := by rw [hsz]; exact Tryd.info68s
          have hone := one32 (s.add r).list
          have hres : ((s.add r).list.map v32).toArray = ((s.add (rounds ws s 64)).list.map v32).toArray := by rw [HRR.out]
          have HRES : Hid (((s.add r).list.map v32).toArray = ((s.add (rounds ws s 64)).list.map v32).toArray) := hres
          clear hres hb0 hsz
          generalize ((s.add r).list.map v32).toArray = res at hb2 hst hinfo hone HRES
          go_wp2_with (first | (refine wpList_load_row rfl 68 _ rfl w.heap.size rfl 68 _ (0, 0) _ hb2 Tryd.underlying68 rfl hinfo ?_) | (refine wpList_store_row rfl 68 _ _ rfl (w.heap.size + 1 + 1) _ rfl rfl 68 _ hb1 hinfo hst hone ?_))
          refine bodyPost_ret (v := .agg res) (results_cell_row Tryd.results68 _ _ (w.heap.size + 1 + 1) 68 res (0, 0) _ rfl (hb1.setRow _) Tryd.underlying68 rfl hinfo) rfl ⟨ret_agg HRES.out, ?_⟩
          exact Below.setRow hbl _ _ (by omega)

theorem take_any (s : St) (blk : List UInt8) (h64 : blk.length = 64) (w : World) (hg : 1 < w.heap.size) (hk : Tab w 1 (kWords.map v32)) :
    Calls Tryd.prog 68 #[.agg (s.list.map v32).toArray, .agg (blk.map v8).toArray] w fun e w' => e = .returned (.agg ((compress s blk).list.map v32).toArray) ∧ Below w.heap.size w w' :=
  take_aux s blk h64 (sched blk 64) (sched_len blk 64) w hg hk (fun w => spread_any blk h64 w)
end Go.Proofs.YthophonofaaafaaDoor
