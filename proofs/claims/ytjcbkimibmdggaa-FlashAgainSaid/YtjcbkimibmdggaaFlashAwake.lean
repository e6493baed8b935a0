/-
  What is proved here: the small thing that the statements on the flash ask first is so.
  Conditions: the program's flash keeps to what is asked of it.
-/
import Derived.Test.YtjcbkimibmdggaaFlashDoes
namespace Go.Proofs.Ytjcbkimibmdggaa
open Go.RowKit

theorem r64_small (x : Int) (h0 : -1000000 ≤ x) (h1 : x ≤ 1000000) : R64 x := by unfold R64; omega
theorem own_new6 (w : World) (arr : List UInt8) : Seg (w.alloc (.cells (arr.map v8).toArray 5)) (.slice (some ⟨w.heap.size, 0, none⟩) arr.length arr.length) arr :=
  Seg.of_row (Blk.row (Blk.new w 5 _)) rfl (Nat.le_refl _) (by simp)
theorem below_chg6 {B : Nat} {w w1 w2 : World} {S : Nat → Prop} (h : Below B w w1) (hc : Chg S w1 w2) (hS : ∀ k, S k → B ≤ k) (hB : B ≤ w.heap.size) : Below B w w2 := h.trans (hc.below hS (Nat.le_trans hB h.size))
theorem there_true {s : FS} {a m : Int} (h0 : 0 ≤ m) (h1 : m ≤ 4096) (h2 : 0 ≤ a) (h3 : a ≤ (s.b.length : Int) - m) : thereB s a m = true := by
  unfold thereB
  rw [decide_eq_true h0, decide_eq_true h1, decide_eq_true h2, decide_eq_true h3]
  rfl
theorem prog_cons (c d x : UInt8) (n : Nat) : progL (d :: List.replicate n c) 0 [x] 1 = (d &&& x) :: List.replicate n c := by
  refine bytes_ext (by rw [progL_len]; simp) fun i hi => ?_
  rw [progL_len] at hi
  rw [progL_at _ _ _ _ _ hi]
  cases i with
  | zero => simp
  | succ i => rw [if_neg (by omega), List.getD_cons_succ, List.getD_cons_succ]
theorem awk_len (c : UInt8) : (c :: List.replicate 1023 (255 : UInt8)).length = 1024 := by rw [List.length_cons, List.length_replicate]
def awk1 : FS := { newF 1 5 with b := 15 :: List.replicate 1023 255 }
def awk2 : FS := { newF 1 5 with b := 12 :: List.replicate 1023 255 }
theorem awk_one : programF (newF 1 5) 0 [15] = (0, awk1) := by
  have h : thereB (newF 1 5) 0 (([15] : List UInt8).length : Int) = true := there_true (by decide) (by decide) (by decide) (by show (0 : Int) ≤ ((List.replicate 1024 (255 : UInt8)).length : Int) - 1; rw [List.length_replicate]; decide)
  unfold programF
  rw [h]
  have e : progL (newF 1 5).b (0 : Int).toNat [15] (goesF (newF 1 5) ([15] : List UInt8).length).1 = 15 :: List.replicate 1023 255 := prog_cons 255 255 15 1023
  simp only [e]
  rfl
theorem awk_two : programF awk1 0 [60] = (0, awk2) := by
  have h : thereB awk1 0 (([60] : List UInt8).length : Int) = true := there_true (by decide) (by decide) (by decide) (by show (0 : Int) ≤ ((15 :: List.replicate 1023 (255 : UInt8)).length : Int) - 1; rw [awk_len]; decide)
  unfold programF
  rw [h]
  have e : progL awk1.b (0 : Int).toNat [60] (goesF awk1 ([60] : List UInt8).length).1 = 12 :: List.replicate 1023 255 := prog_cons 255 15 60 1023
  simp only [e]
  rfl
theorem awk_read : readF awk2 0 1 = ([12], 0) := by
  have h : thereB awk2 0 1 = true := there_true (by decide) (by decide) (by decide) (by show (0 : Int) ≤ ((12 :: List.replicate 1023 (255 : UInt8)).length : Int) - 1; rw [awk_len]; decide)
  unfold readF
  rw [h]
  rfl

set_option maxRecDepth 100000 in
set_option maxHeartbeats 1000000 in
theorem awake6_any (P : PF) (w : World) : Calls Try.prog 9 #[] w fun e w' => e = .returned (.bool true) ∧ Below w.heap.size w w' := by
  have HN : Hid (Calls Try.prog 10 #[.int .i64 1, .int .i64 5] w fun e w' => ∃ L : P.Lay, e = .returned (.tuple #[.pointer (some ⟨P.g L, 0, none⟩), .int .i64 0]) ∧ P.n L = 1 ∧ P.Rel w' L (newF 1 5) ∧ Below w.heap.size w w' ∧ (∀ q, P.T L q → w.heap.size ≤ q)) := P.new_any 1 5 w (by decide) (by decide) (by decide) (by decide)
  go_enter Try.func9, Try.ntmps9
  go_wp2_with fail
  refine HN.out.mono ?_
  rintro e w1 ⟨L, rfl, -, hD1, hB1, hT1⟩
  go_wp2_with fail
  have hb1 := (Below.refl w1.heap.size w1).alloc (Nat.le_refl _) (.cells #[.int .u8 15] 5)
  refine (P.program L (newF 1 5) 0 _ [15] _ (P.after hD1 hb1) (r64_small _ (by omega) (by omega)) (own_new6 w1 [15]) (by decide) (fun _ q hq e => by have := P.lt hD1 q e; simp [Value.ownBlock] at hq; omega)).mono ?_
  rw [awk_one]
  rintro e w2 ⟨rfl, hD2, hc2⟩
  have hB2 : Below w.heap.size w w2 := below_chg6 (hB1.trans (hb1.mono hB1.size)) hc2 hT1 (Nat.le_refl _)
  go_wp2_with fail
  have hb2 := (Below.refl w2.heap.size w2).alloc (Nat.le_refl _) (.cells #[.int .u8 60] 5)
  refine (P.program L awk1 0 _ [60] _ (P.after hD2 hb2) (r64_small _ (by omega) (by omega)) (own_new6 w2 [60]) (by decide) (fun _ q hq e => by have := P.lt hD2 q e; simp [Value.ownBlock] at hq; omega)).mono ?_
  rw [awk_two]
  rintro e w3 ⟨rfl, hD3, hc3⟩
  have hB3 : Below w.heap.size w w3 := below_chg6 (hB2.trans (hb2.mono hB2.size)) hc3 hT1 (Nat.le_refl _)
  go_wp2_with fail
  refine (P.read L awk2 0 1 _ hD3 (r64_small _ (by omega) (by omega)) (r64_small _ (by omega) (by omega))).mono ?_
  rw [awk_read]
  rintro e w4 ⟨v, rfl, ho4, hb4⟩
  have hB4 : Below w.heap.size w w4 := hB3.trans (hb4.mono hB3.size)
  obtain ⟨av, cv, rfl⟩ := Seg.shapeD ho4.seg
  obtain ⟨qb, qo, rfl, hqc, hrow, _⟩ := ho4.seg.formD (by decide)
  have d0 : w4.cell? ⟨qb, qo, none⟩ = some (.int .u8 12) := hrow 0 (by decide)
  clear ho4 hrow
  go_wp2
  go_ret
  exact ⟨rfl, hB4⟩
end Go.Proofs.Ytjcbkimibmdggaa
