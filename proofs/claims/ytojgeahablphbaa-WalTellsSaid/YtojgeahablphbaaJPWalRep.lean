/-
  What is proved here: bytes.Repeat of twelve bytes, twice.
  Conditions: none.
-/
import Derived.Test.YtojgeahablphbaaJPWalSmall
import Derived.Test.YtojgeahablphbaaJPFlashRep
namespace Go.Proofs.Ytojgeahablphbaa
open Go.RowKit

set_option maxRecDepth 100000 in
set_option maxHeartbeats 1000000 in
theorem mul64_12 (w : World) : Calls Try.prog 62 #[.int .u64 12, .int .u64 2] w fun e w' => e = .returned (.tuple #[.int .u64 0, .int .u64 24]) ∧ w = w' := by
  have m1 : bits .and .u64 12 4294967295 = 12 := by have := bits_and_u64_nat 12 4294967295 (by omega) (by omega); exact this
  have m2 : bits .and .u64 2 4294967295 = 2 := by have := bits_and_u64_nat 2 4294967295 (by omega) (by omega); exact this
  have m4 : bits .and .u64 0 4294967295 = 0 := by have := bits_and_u64_nat 0 4294967295 (by omega) (by omega); exact this
  go_enter Try.func62, Try.ntmps62
  go_wp2
  go_ret2
  exact ⟨rfl, rfl⟩
set_option maxRecDepth 100000 in
theorem mul_12 (w : World) : Calls Try.prog 58 #[.int .u64 12, .int .u64 2] w fun e w' => e = .returned (.tuple #[.int .u64 0, .int .u64 24]) ∧ w = w' := by
  have HM : Hid (Calls Try.prog 62 #[.int .u64 12, .int .u64 2] w fun e w' => e = .returned (.tuple #[.int .u64 0, .int .u64 24]) ∧ w = w') := mul64_12 w
  go_enter Try.func58, Try.ntmps58
  go_wp2_with (go_at_call 62; refine HM.out.mono ?_; rintro e w1 ⟨rfl, rfl⟩)
  go_ret2
  exact ⟨rfl, rfl⟩
/-- A block whose first cells are such bytes. -/
def Firsts (w : World) (g : Nat) (bs : List UInt8) (size : Nat) : Prop := ∃ arr, Blk w g 5 arr ∧ arr.size = size ∧ ∀ (j : Nat) v, (bs.map v8)[j]? = some v → arr[j]? = some v
theorem firsts_more {w : World} {g size : Nat} {a b : List UInt8} {arr : Array Value} (h : w.heap[g]? = some (.cells (splice arr.toList a.length (b.map v8)).toArray 5 (0, 0))) (hs : arr.size = size) (ha : ∀ (j : Nat) v, (a.map v8)[j]? = some v → arr[j]? = some v) (hK : a.length + b.length ≤ size) : Firsts w g (a ++ b) size := by
  refine ⟨_, h, ?_, fun j v hv => ?_⟩
  · unfold splice
    simp
    omega
  · unfold splice
    rw [List.getElem?_toArray]
    rw [List.map_append] at hv
    by_cases h1 : j < a.length
    · rw [List.getElem?_append_left (by simpa using h1)] at hv
      rw [List.getElem?_append_left (by simp; omega), List.getElem?_take_of_lt h1, Array.getElem?_toList]
      exact ha j v hv
    · rw [List.getElem?_append_right (by simpa using h1), List.length_map] at hv
      have hj : j - a.length < b.length := by
        have := (List.getElem?_eq_some_iff.1 hv).1
        simpa using this
      rw [List.getElem?_append_right (by simp; omega), List.getElem?_append_left (by simp; omega)]
      simp only [List.length_take, Array.length_toList]
      rw [show min a.length arr.size = a.length by omega]
      exact hv
set_option maxRecDepth 100000 in
set_option maxHeartbeats 4000000 in
theorem rep2_any (b off cb : Nat) (bs : List UInt8) (w : World) (hl : bs.length = 12) (hr : Row w b off bs) (hb : b < w.heap.size) :
    Calls Try.prog 56 #[.slice (some ⟨b, off, none⟩) 12 cb, .int .i64 2] w fun e w' => e = .returned (.slice (some ⟨w.heap.size, 0, none⟩) 24 24) ∧ Row w' w.heap.size 0 (bs ++ bs) ∧ w.heap.size < w'.heap.size ∧ Below w.heap.size w w' := by
  have HM : Hid (Calls Try.prog 58 #[.int .u64 12, .int .u64 2] w fun e w' => e = .returned (.tuple #[.int .u64 0, .int .u64 24]) ∧ w = w') := mul_12 w
  obtain ⟨cs, hrunM, hle, -⟩ := Lib.run_makeNoZero (P := Try.prog) w #[3] 22 5 Try.underlying22 24 (by omega)
  have hcall : (callFunc 59 #[.int .i64 24]).run Try.prog w = .ok (.value (.slice (some ⟨w.heap.size, 0, none⟩) 24 cs.size)) ((w.alloc (.cells cs 5)).drewN 2) := by
    rw [run_callFunc_extern Try.func59 (by kernel_rfl) (by kernel_rfl) (by kernel_rfl) (e := Extern.BytealgMakeNoZero.makeNoZero #[3] #[22]) (by kernel_rfl)]
    have := hrunM
    simp only [Int.cast_ofNat_Int] at this
    rw [this]
    rfl
  clear hrunM
  have hsl : ∀ w, (Instr.slice 22 (.slice (some ⟨w.heap.size, 0, none⟩) 24 cs.size) none (some (.int .i64 24)) (some (.int .i64 24))).run Try.prog w = .ok (.slice (some ⟨w.heap.size, 0, none⟩) 24 24) w := fun w => slice_roomD (some ⟨w.heap.size, 0, none⟩) 24 cs.size 24 hle w
  have hsl2 : ∀ W, (Instr.slice 22 (.slice (some ⟨w.heap.size, 0, none⟩) 24 cs.size) none (some (.int .i64 24)) (some (.int .i64 24))).run Try.prog W = .ok (.slice (some ⟨w.heap.size, 0, none⟩) 24 24) W := fun W => slice_roomD (some ⟨w.heap.size, 0, none⟩) 24 cs.size 24 hle W
  have hg0 : Blk ((w.alloc (.cells cs 5)).drewN 2) w.heap.size 5 cs := (Blk.new w 5 cs).drewN 2
  have hB0 : Below w.heap.size w ((w.alloc (.cells cs 5)).drewN 2) := Below.drewN ((Below.refl _ w).alloc (Nat.le_refl _) _) 2
  have hr0 := hr.below hB0 hb
  have H1 : ∀ j v, (bs.map v8)[j]? = some v → ((w.alloc (.cells cs 5)).drewN 2).cell? ((⟨b, off, none⟩ : Addr).add j) = some v := hr0.at
  have hsz1 : (Try.prog.info? 5).map (·.size) = some 1 := by kernel_rfl
  clear hsl
  go_enter Try.func56, Try.ntmps56
  go_wp2_with (first | (go_at_call 58; refine HM.out.mono ?_; rintro e w1 ⟨rfl, rfl⟩) | (refine wpList_copy_splice rfl (.tmp 58) (.tmp 59) 22 22 rfl 5 Try.underlying22 hsz1 (some ⟨w.heap.size, 0, none⟩) (some ⟨b, off, none⟩) 24 24 12 cb rfl rfl w.heap.size 0 cs.toList 5 hg0 (bs.map v8) (by rw [List.length_map, hl]; rfl) (fun _ => ⟨rfl, _, rfl, H1⟩) (by simp; omega) (one8l bs) w.heap.size w hB0 (Nat.le_refl _) ?_; intro w2 hb2 hB2))
  have hF2 : Firsts w2 w.heap.size bs cs.size := by
    have := firsts_more (a := []) (b := bs) (arr := cs) (size := cs.size) hb2.out rfl (fun j v h => by simp at h) (by simp; omega)
    exact this
  clear hb2 hg0 hB0 hr0 H1
  go_loopw [10] (fun i wr => ((i = .int .i64 12 ∧ Firsts wr w.heap.size bs cs.size) ∨ (i = .int .i64 24 ∧ Firsts wr w.heap.size (bs ++ bs) cs.size)) ∧ Below w.heap.size w wr) (fun i _ => 24 - (intOf i).toNat)
  case atStart => exact ⟨.inl ⟨rfl, hF2⟩, hB2⟩
  case round =>
    obtain ⟨⟨rfl, hF⟩ | ⟨rfl, hF⟩, hB⟩ := hrel
    · clear hF2 hB2
      obtain ⟨arr, hg, hsz, hall⟩ := hF
      have l1 : ∀ W, (Instr.slice 22 (.slice (some ⟨w.heap.size, 0, none⟩) 24 24) (some (.int .i64 12)) none none).run Try.prog W = .ok (.slice (some ⟨w.heap.size, 12, none⟩) 12 12) W := fun W => slice_restD (some ⟨w.heap.size, 0, none⟩) 24 24 12 (by omega) W
      have l2 : ∀ W, (Instr.slice 22 (.slice (some ⟨w.heap.size, 0, none⟩) 24 24) none (some (.int .i64 12)) none).run Try.prog W = .ok (.slice (some ⟨w.heap.size, 0, none⟩) 12 24) W := fun W => slice_toD (some ⟨w.heap.size, 0, none⟩) 24 24 12 (by omega) W
      obtain ⟨w2, hr2, hb2, hB2⟩ : ∃ w2, (∀ ty, (Builtin.copy_ #[22, 22] ty #[.slice (some ⟨w.heap.size, 12, none⟩) 12 12, .slice (some ⟨w.heap.size, 0, none⟩) 12 24]).run Try.prog wr.drew = .ok (.int .i64 12) w2) ∧ w2.heap[w.heap.size]? = some (.cells (splice arr.toList bs.length (bs.map v8)).toArray 5 (0, 0)) ∧ Below w.heap.size w w2 := by
        have H2 : ∀ j v, (bs.map v8)[j]? = some v → wr.drew.cell? ((⟨w.heap.size, 0, none⟩ : Addr).add j) = some v := fun j v hv => by
          rw [Addr.add_mid, Nat.zero_add]
          exact hg.drew.cell (hall j v hv)
        have hr := fun ty => run_copy_row (P := Try.prog) wr.drew 22 22 ty 5 w.heap.size 12 12 12 ⟨w.heap.size, 0, none⟩ 12 24 arr 5 (bs.map v8) Try.underlying22 hsz1 hg.drew (by rw [List.length_map, hl]; rfl) H2 (by rw [List.length_map, hl, hsz]; omega) (one8l bs)
        rw [List.length_map, hl] at hr
        refine ⟨_, hr, ?_, Below.setRow hB.drew _ _ (Nat.le_refl _)⟩
        exact (hg.drew.setRow _).of_eq (by simp [splice, hl])
      have hwr : IntKind.i64.wrap (12 + 12) = 24 := by rw [IntKind.wrap_i64]; omega
      go_wp2_with fail
      refine held_begin (fun _ => True) (by kernel_rfl) ?_
      refine held_take 0 67 _ (.int .i64 12) rfl rfl (by kernel_rfl) (by kernel_rfl) (by kernel_rfl) rfl trivial (fun _ _ => rfl) ?_
      simp only [Act.put, List.setIfInBounds_toArray, List.set_cons_succ, List.set_cons_zero]
      refine held_take 1 68 _ (.slice (some ⟨w.heap.size, 0, none⟩) 24 24) rfl rfl (by kernel_rfl) (by kernel_rfl) (by kernel_rfl) rfl trivial (fun _ _ => rfl) ?_
      simp only [Act.put, List.setIfInBounds_toArray, List.set_cons_succ, List.set_cons_zero]
      refine held_take 2 69 _ (.int .i64 12) rfl rfl (by kernel_rfl) (by kernel_rfl) (by kernel_rfl) rfl trivial (fun _ _ => rfl) ?_
      simp only [Act.put, List.setIfInBounds_toArray, List.set_cons_succ, List.set_cons_zero]
      refine held_take 3 70 _ (.slice (some ⟨w.heap.size, 12, none⟩) 12 12) rfl rfl (by kernel_rfl) (by kernel_rfl) (by kernel_rfl) rfl trivial (fun W _ => exec_slice _ _ _ _ rfl (.slice (some ⟨w.heap.size, 0, none⟩) 24 24) _ (some (.int .i64 12)) none none rfl rfl rfl rfl (l1 W)) ?_
      simp only [Act.put, List.setIfInBounds_toArray, List.set_cons_succ, List.set_cons_zero]
      refine held_take 4 71 _ (.slice (some ⟨w.heap.size, 0, none⟩) 24 24) rfl rfl (by kernel_rfl) (by kernel_rfl) (by kernel_rfl) rfl trivial (fun _ _ => rfl) ?_
      simp only [Act.put, List.setIfInBounds_toArray, List.set_cons_succ, List.set_cons_zero]
      refine held_take 5 72 _ (.int .i64 12) rfl rfl (by kernel_rfl) (by kernel_rfl) (by kernel_rfl) rfl trivial (fun _ _ => rfl) ?_
      simp only [Act.put, List.setIfInBounds_toArray, List.set_cons_succ, List.set_cons_zero]
      refine held_take 6 73 _ (.slice (some ⟨w.heap.size, 0, none⟩) 12 24) rfl rfl (by kernel_rfl) (by kernel_rfl) (by kernel_rfl) rfl trivial (fun W _ => exec_slice _ _ _ _ rfl (.slice (some ⟨w.heap.size, 0, none⟩) 24 24) _ none (some (.int .i64 12)) none rfl rfl rfl rfl (l2 W)) ?_
      simp only [Act.put, List.setIfInBounds_toArray, List.set_cons_succ, List.set_cons_zero]
      refine held_all1 7 (by kernel_rfl) (op_value 7 74 _ (.int .i64 12) w2 rfl rfl rfl (exec_copy _ _ rfl (.slice (some ⟨w.heap.size, 12, none⟩) 12 12) (.slice (some ⟨w.heap.size, 0, none⟩) 12 24) _ rfl rfl hr2) ⟨trivial, ?_⟩)
      simp only [Act.put, List.setIfInBounds_toArray, List.set_cons_succ, List.set_cons_zero]
      refine held_all1 8 (by kernel_rfl) (op_value 8 75 _ (.int .i64 24) w2 rfl rfl rfl (exec_addi _ _ _ rfl _ _ _ rfl rfl hwr) ⟨trivial, ?_⟩)
      simp only [Act.put, List.setIfInBounds_toArray, List.set_cons_succ, List.set_cons_zero]
      refine held_all1 9 (by kernel_rfl) (op_value 9 10 _ (.int .i64 24) w2 rfl rfl rfl rfl ⟨trivial, ?_⟩)
      simp only [Act.put, List.setIfInBounds_toArray, List.set_cons_succ, List.set_cons_zero]
      refine wpAnyH_done (by kernel_rfl) ?_ _
      refine NoPanic.normal ?_
      go_wp2
      go_roundw
      case rel => exact ⟨.inr ⟨rfl, firsts_more hb2 hsz hall (by omega)⟩, hB2⟩
      case measure => simp [intOf]
    · clear hF2 hB2
      go_wp2
      go_ret
      obtain ⟨arr, hg, hsz, hall⟩ := hF
      refine ⟨rfl, fun j hj => ?_, hg.lt, hB⟩
      rw [Nat.zero_add]
      exact hg.cell (hall j _ (by rw [List.getElem?_map, List.getElem?_eq_getElem hj]; rfl))

theorem own_none (w : World) (base : Nat) : Own w base (.slice none 0 0) [] := ⟨rfl, .inl ⟨rfl, rfl⟩⟩
set_option maxRecDepth 100000 in
set_option maxHeartbeats 2000000 in
theorem code_any (n g m : Nat) (w : World) (hn : n < 4294967296) (hg : g < 4294967296) (hm : m < 4294967296) :
    Calls Try.prog 46 #[headV n g m] w fun e w' => ∃ v, e = .returned v ∧ Seg w' v (headB n g m) ∧ (∀ q, v.ownBlock = some q → w.heap.size ≤ q) ∧ Below w.heap.size w w' := by
  unfold headV
  have hb0 := (Below.refl w.heap.size w).alloc (Nat.le_refl _) (.cells #[.int .i64 (n : Int), .int .i64 (g : Int), .int .i64 (m : Int)] 62)
  go_enter Try.func46, Try.ntmps46
  go_wp2_with fail
  go_loopw [3, 13] (fun t i wr => ∃ I : Nat, i = .int .i64 (I : Int) ∧ I ≤ 3 ∧ Own wr w.heap.size t ((threeB n g m).take (4 * I)) ∧ Below w.heap.size w wr) (fun _ i _ => 3 - (intOf i).toNat)
  case atStart => exact ⟨0, rfl, by omega, own_none _ _, hb0⟩
  case round =>
    obtain ⟨I, rfl, hI, hO, hB⟩ := hrel
    by_cases h3 : I = 3
    · subst h3
      obtain ⟨q, c, rfl, hq1, hq2, hqc, hrow⟩ := hO.form (by simp [threeB_len])
      have hT : (threeB n g m).take (4 * 3) = threeB n g m := List.take_of_length_le (by rw [threeB_len]; decide)
      rw [hT] at hrow
      have hln : ((threeB n g m).take (4 * 3)).length = 12 := by rw [hT, threeB_len]
      rw [hln]
      go_wp2_with (go_at_call 56; refine (rep2_any q 0 c (threeB n g m) _ (threeB_len _ _ _) hrow hq2).mono ?_; rintro e w2 ⟨rfl, hrw, hlt, hb2⟩)
      go_ret
      exact ⟨_, rfl, Seg.of_row hrw (by show 24 = 24; rfl) (Nat.le_refl _) hlt, fun q2 hq2 => by have e : wr.heap.size = q2 := Option.some.inj hq2; have := hB.size; omega, hB.trans (hb2.mono hB.size)⟩
    · rcases (show I = 0 ∨ I = 1 ∨ I = 2 by omega) with rfl | rfl | rfl
      · obtain ⟨at_, ct, hshape⟩ := hO.seg.shapeD
        have HO : Hid (Own wr w.heap.size u3 ((threeB n g m).take (4 * 0))) := hO
        have hlen : ((threeB n g m).take (4 * 0)).length ≤ 100000000 := by rw [List.length_take, threeB_len]; omega
        clear hshape hO
        have hix : ∀ w, (Instr.index 94 (.agg #[.int .i64 (n : Int), .int .i64 (g : Int), .int .i64 (m : Int)]) (.int .i64 0)).run Try.prog w = .ok (.int .i64 (n : Int)) w := fun w => by kernel_rfl
        go_wp2_with (go_at_call 55; refine (appN_any w.heap.size _ _ n _ hn HO.out hB.size hlen).mono ?_; rintro e w2 ⟨v2, rfl, ho2, hg2, hm2⟩)
        go_roundw
        case rel => exact ⟨1, rfl, by omega, ho2, below_grown hB hg2 hB.size (fun q hq => (HO.out.blocks q hq).1)⟩
        case measure => simp [intOf]
      · obtain ⟨at_, ct, hshape⟩ := hO.seg.shapeD
        have HO : Hid (Own wr w.heap.size u3 ((threeB n g m).take (4 * 1))) := hO
        have hlen : ((threeB n g m).take (4 * 1)).length ≤ 100000000 := by rw [List.length_take, threeB_len]; omega
        clear hshape hO
        have hix : ∀ w, (Instr.index 94 (.agg #[.int .i64 (n : Int), .int .i64 (g : Int), .int .i64 (m : Int)]) (.int .i64 1)).run Try.prog w = .ok (.int .i64 (g : Int)) w := fun w => by kernel_rfl
        go_wp2_with (go_at_call 55; refine (appN_any w.heap.size _ _ g _ hg HO.out hB.size hlen).mono ?_; rintro e w2 ⟨v2, rfl, ho2, hg2, hm2⟩)
        go_roundw
        case rel => exact ⟨2, rfl, by omega, ho2, below_grown hB hg2 hB.size (fun q hq => (HO.out.blocks q hq).1)⟩
        case measure => simp [intOf]
      · obtain ⟨at_, ct, hshape⟩ := hO.seg.shapeD
        have HO : Hid (Own wr w.heap.size u3 ((threeB n g m).take (4 * 2))) := hO
        have hlen : ((threeB n g m).take (4 * 2)).length ≤ 100000000 := by rw [List.length_take, threeB_len]; omega
        clear hshape hO
        have hix : ∀ w, (Instr.index 94 (.agg #[.int .i64 (n : Int), .int .i64 (g : Int), .int .i64 (m : Int)]) (.int .i64 2)).run Try.prog w = .ok (.int .i64 (m : Int)) w := fun w => by kernel_rfl
        go_wp2_with (go_at_call 55; refine (appN_any w.heap.size _ _ m _ hm HO.out hB.size hlen).mono ?_; rintro e w2 ⟨v2, rfl, ho2, hg2, hm2⟩)
        go_roundw
        case rel => exact ⟨3, rfl, by omega, ho2, below_grown hB hg2 hB.size (fun q hq => (HO.out.blocks q hq).1)⟩
        case measure => simp [intOf]
end Go.Proofs.Ytojgeahablphbaa
