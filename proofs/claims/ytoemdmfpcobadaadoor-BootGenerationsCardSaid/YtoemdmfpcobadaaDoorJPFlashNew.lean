/-
  What is proved here: of how many blocks, and how much wear, there is a flash, and which it is.
  Conditions: those that each fact names.
-/
import Derived.Test.YtoemdmfpcobadaaDoorJPFlash
import Derived.Test.YtoemdmfpcobadaaDoorJPFlashRep
namespace Go.Proofs.YtoemdmfpcobadaaDoor
open Go.RowKit

set_option maxRecDepth 100000 in
set_option maxHeartbeats 1000000 in
theorem new6_bad (n k : Int) (w : World) (h : n < 1 ∨ 256 < n ∨ k < 1 ∨ 10000 < k) :
    Calls Tryd.prog 7 #[.int .i64 n, .int .i64 k] w fun e w' => e = .returned (.tuple #[.pointer none, .int .i64 1]) ∧ Below w.heap.size w w' := by
  by_cases h1 : n < 1
  · clear h
    go_enter Tryd.func7, Tryd.ntmps7
    go_wp2
    go_ret2
    exact ⟨rfl, Below.refl _ _⟩
  by_cases h2 : 256 < n
  · clear h
    go_enter Tryd.func7, Tryd.ntmps7
    go_wp2
    go_ret2
    exact ⟨rfl, Below.refl _ _⟩
  by_cases h3 : k < 1
  · clear h
    go_enter Tryd.func7, Tryd.ntmps7
    go_wp2
    go_ret2
    exact ⟨rfl, Below.refl _ _⟩
  · have h4 : 10000 < k := by omega
    clear h
    go_enter Tryd.func7, Tryd.ntmps7
    go_wp2
    go_ret2
    exact ⟨rfl, Below.refl _ _⟩

theorem make_ints6 (n : Nat) (hn : n ≤ 1000000) (w : World) : (Instr.makeSlice 59 (.int .i64 (n : Int)) (.int .i64 (n : Int))).run Tryd.prog w = .ok (.slice (some ⟨w.heap.size, 0, none⟩) n n) (w.alloc (.cells (zints n) 3)) := by
  have := run_make_row' (P := Tryd.prog) 59 3 (.int .i64 0) 8 Tryd.underlying59 Tryd.info3q rfl .i64 .i64 n (by omega) (by omega) w
  rw [made_zints] at this
  exact this
theorem ones_tab {w : World} {g M size : Nat} {c : UInt8} (h : Ones w g M c size) (hM : M ≤ size) : TabB w g 5 ((List.replicate M c).map v8) := by
  obtain ⟨arr, h1, h2, h3⟩ := h
  refine ⟨arr, h1, by simp; omega, fun j v hv => ?_⟩
  rw [List.map_replicate, List.getElem?_replicate] at hv
  split at hv
  · cases hv
    exact h3 j (by assumption)
  · cases hv
theorem TabB.alloc {w : World} {b : Nat} {t : TypeId} {vs : List Value} (h : TabB w b t vs) (o : Obj) : TabB (w.alloc o) b t vs := h.chg (S := fun _ => False) ((Chg.refl _ w).alloc o) id

set_option maxRecDepth 100000 in
set_option maxHeartbeats 1000000 in
theorem new6_any (m k : Nat) (w : World) (h1 : 1 ≤ m) (h2 : m ≤ 256) (h3 : 1 ≤ k) (h4 : k ≤ 10000) :
    Calls Tryd.prog 7 #[.int .i64 (m : Int), .int .i64 (k : Int)] w fun e w' => ∃ L : PLay6, e = .returned (.tuple #[.pointer (some ⟨L.g, 0, none⟩), .int .i64 0]) ∧ L.n = m ∧ PFlash w' L (newF m k) ∧ Below w.heap.size w w' ∧ (∀ q, L.T q → w.heap.size ≤ q) := by
  have a1 : ¬ (m : Int) < 1 := by omega
  have a2 : ¬ (256 : Int) < (m : Int) := by omega
  have a3 : ¬ (k : Int) < 1 := by omega
  have a4 : ¬ (10000 : Int) < (k : Int) := by omega
  obtain ⟨M, hM⟩ : ∃ M, M = 1024 * m := ⟨_, rfl⟩
  have hbl : Blk (w.alloc (.cells #[.int .u8 255] 5)) w.heap.size 5 #[v8 255] := Blk.new w 5 _
  have HR : Hid (Calls Tryd.prog 26 #[.slice (some ⟨w.heap.size, 0, none⟩) 1 1, .int .i64 ((m : Int) * 1024)] (w.alloc (.cells #[.int .u8 255] 5)) fun e w' => ∃ size, e = .returned (.slice (some ⟨(w.alloc (.cells #[.int .u8 255] 5)).heap.size, 0, none⟩) M M) ∧ M ≤ size ∧ Ones w' (w.alloc (.cells #[.int .u8 255] 5)).heap.size M 255 size ∧ Below (w.alloc (.cells #[.int .u8 255] 5)).heap.size (w.alloc (.cells #[.int .u8 255] 5)) w') := by have := repeat_any M (by omega) (by omega) w.heap.size 1 255 _ hbl; rw [show (M : Int) = (m : Int) * 1024 by omega] at this; exact this
  have hB0 : Below w.heap.size w (w.alloc (.cells #[.int .u8 255] 5)) := (Below.refl _ w).alloc (Nat.le_refl _) _
  have hs0 : (w.alloc (.cells #[.int .u8 255] 5)).heap.size = w.heap.size + 1 := by simp
  rw [hs0] at HR
  have hmk := make_ints6 m (by omega)
  have hok := newF_ok m k h1 h2 h4
  clear hbl
  go_enter Tryd.func7, Tryd.ntmps7
  go_wp2_with fail
  refine HR.out.mono ?_
  rintro e w1 ⟨size, rfl, hsz, hO, hb1⟩
  have HOK : Hid ((newF m k).ok m) := hok
  clear hok HR
  have HM : Hid (M = 1024 * m) := hM
  clear hM
  go_wp2
  go_ret2
  have hB1 : Below w.heap.size w w1 := hB0.trans (hb1.mono (by omega))
  have ht := ones_tab hO hsz
  have hl := ht.lt
  have hs1 : (w1.alloc (.cells (zints m) 3)).heap.size = w1.heap.size + 1 := by simp
  refine ⟨⟨w1.heap.size + 1, w.heap.size + 1, w1.heap.size, m⟩, rfl, rfl, ⟨HOK.out, ?_, ?_, ?_, ⟨false, 0, 0, ?_, ?_⟩, ?_, ?_⟩, ?_, ?_⟩
  · show w1.heap.size + 1 ≠ w.heap.size + 1; omega
  · show w1.heap.size + 1 ≠ w1.heap.size; omega
  · show w.heap.size + 1 ≠ w1.heap.size; omega
  · rw [HM.out]
    exact Blk.newAt _ _ _ _ (by simp)
  · exact ⟨by unfold R64; omega, by unfold R64; omega, fun _ => rfl, fun _ h => absurd h (by show ¬ (0 : Int) ≤ -1; decide)⟩
  · rw [HM.out] at ht
    exact (ht.alloc _).alloc _
  · exact (Blk.new w1 3 _).alloc _
  · exact (hB1.alloc hB1.size _).alloc (by rw [hs1]; have := hB1.size; omega) _
  · have := hB1.size
    rintro q (rfl | rfl | rfl)
    · show w.heap.size ≤ w1.heap.size + 1; omega
    · show w.heap.size ≤ w.heap.size + 1; omega
    · exact this
end Go.Proofs.YtoemdmfpcobadaaDoor
