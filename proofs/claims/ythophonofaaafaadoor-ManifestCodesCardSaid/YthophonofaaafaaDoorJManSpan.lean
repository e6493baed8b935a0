/-
  What is proved here: manifest.Count and Span answer as the plain functions do.
  Conditions: those that each fact names.
-/
import Derived.Test.YthophonofaaafaaDoorJShaPure
import Derived.Test.YthophonofaaafaaDoorJManPure
import Derived.Test.YthophonofaaafaaDoorJManMakeP
namespace Go.Proofs.YthophonofaaafaaDoor
open Go.RowKit

set_option maxRecDepth 100000 in
set_option maxHeartbeats 1000000 in
theorem count_any (m : MM) (su : Value) (w : World) (hh : m.h.length = 32) (hm : m.u.length ≤ 1000000000) (hu : Wds w su m.u) :
    Calls Tryd.prog 18 #[manV m su] w fun e w' => e = .returned (.int .i64 (countE m)) ∧ Below w.heap.size w w' := by
  have hB := (Below.refl w.heap.size w).alloc (Nat.le_refl _) (.cells (manC m su) 27)
  have k := Blk.new w 27 (manC m su)
  have hi := manC_info m su hh
  have HR : Hid (Calls Tryd.prog 16 #[manV m su] (w.alloc (.cells (manC m su) 27)) fun e w' => e = .returned (.bool (decide (okM m))) ∧ Below (w.alloc (.cells (manC m su) 27)).heap.size (w.alloc (.cells (manC m su) 27)) w') := mright_any m su _ hh hm (hu.alloc _)
  have HC : Hid (okM m → ∀ W, Calls Tryd.prog 34 #[manV m su] W fun e w' => e = .returned (.int .i64 (countM m)) ∧ Below W.heap.size W w') := fun h W => chunks_any m su W (by have := h.1.2.1; omega) (by have := h.1.2.2.1; omega)
  clear hu hh
  unfold manV at *
  by_cases hn : okM m
  · have HE : Hid (countE m = countM m) := if_pos hn
    have HCC : Hid (∀ W, Calls Tryd.prog 34 #[.agg (manC m su)] W fun e w' => e = .returned (.int .i64 (countM m)) ∧ Below W.heap.size W w') := HC.out hn
    rw [decide_eq_true hn] at HR
    rw [HE.out]
    clear HE HC hn hm
    generalize countM m = N at *
    generalize manC m su = MC at *
    go_enter Tryd.func18, Tryd.ntmps18
    go_wp2_with (refine wpList_load_row rfl 27 _ rfl w.heap.size rfl 27 _ (0, 0) _ k Tryd.underlying27 rfl hi ?_)
    refine HR.out.mono ?_
    rintro e w1 ⟨rfl, hb1⟩
    have k1 := k.below hb1 k.lt
    clear HR
    go_wp2_with (refine wpList_load_row rfl 27 _ rfl w.heap.size rfl 27 _ (0, 0) _ k1 Tryd.underlying27 rfl hi ?_)
    refine (HCC.out _).mono ?_
    rintro e w2 ⟨rfl, hb2⟩
    go_wp2
    go_ret
    exact ⟨rfl, (hB.trans (hb1.mono hB.size)).trans (hb2.mono (Nat.le_trans hB.size hb1.size))⟩
  · have HE : Hid (countE m = 0) := if_neg hn
    rw [decide_eq_false hn] at HR
    rw [HE.out]
    clear HE HC hn hm
    generalize manC m su = MC at *
    go_enter Tryd.func18, Tryd.ntmps18
    go_wp2_with (refine wpList_load_row rfl 27 _ rfl w.heap.size rfl 27 _ (0, 0) _ k Tryd.underlying27 rfl hi ?_)
    refine HR.out.mono ?_
    rintro e w1 ⟨rfl, hb1⟩
    go_wp2
    go_ret
    exact ⟨rfl, hB.trans (hb1.mono hB.size)⟩

def tup3 (x : Int × Int × Int) : Value := .tuple #[.int .i64 x.1, .int .i64 x.2.1, .int .i64 x.2.2]
set_option maxRecDepth 100000 in
set_option maxHeartbeats 1000000 in
theorem span_any (m : MM) (su : Value) (i : Int) (w : World) (hh : m.h.length = 32) (hm : m.u.length ≤ 1000000000) (hu : Wds w su m.u) :
    Calls Tryd.prog 14 #[manV m su, .int .i64 i] w fun e w' => e = .returned (tup3 (spanE m i)) ∧ Below w.heap.size w w' := by
  have hB := (Below.refl w.heap.size w).alloc (Nat.le_refl _) (.cells (manC m su) 27)
  have k := Blk.new w 27 (manC m su)
  have hi := manC_info m su hh
  have HR : Hid (Calls Tryd.prog 18 #[manV m su] (w.alloc (.cells (manC m su) 27)) fun e w' => e = .returned (.int .i64 (countE m)) ∧ Below (w.alloc (.cells (manC m su) 27)).heap.size (w.alloc (.cells (manC m su) 27)) w') := count_any m su _ hh hm (hu.alloc _)
  have HC : Hid (numsOk m → 0 ≤ i → i < countM m → ∀ W, Calls Tryd.prog 33 #[manV m su, .int .i64 i] W fun e w' => e = .returned (.tuple #[.int .i64 (atM m i), .int .i64 (lenM m i)]) ∧ Below W.heap.size W w') := fun h h0 h1 W => mspan_any m su i W h h0 h1
  clear hu hh
  unfold manV at *
  by_cases h0 : i < 0
  · rw [spanE_no (m := m) (i := i) (by omega)]
    clear HR HC hm
    generalize manC m su = MC at *
    go_enter Tryd.func14, Tryd.ntmps14
    go_wp2
    go_ret3
    exact ⟨rfl, hB⟩
  · by_cases hc : i < countE m
    · have hok : okM m := by
        refine Classical.byContradiction fun hn => ?_
        have : countE m = 0 := if_neg hn
        omega
      have he : countE m = countM m := if_pos hok
      rw [spanE_yes (m := m) (i := i) (by omega) hok (by omega)]
      have HCC : Hid (∀ W, Calls Tryd.prog 33 #[.agg (manC m su), .int .i64 i] W fun e w' => e = .returned (.tuple #[.int .i64 (atM m i), .int .i64 (lenM m i)]) ∧ Below W.heap.size W w') := HC.out hok.1 (by omega) (by omega)
      clear HC hok he hm
      generalize countE m = N at *
      generalize atM m i = AT at *
      generalize lenM m i = LN at *
      generalize manC m su = MC at *
      go_enter Tryd.func14, Tryd.ntmps14
      go_wp2_with (refine load_guarded rfl 27 _ rfl w.heap.size rfl 27 _ (0, 0) _ k Tryd.underlying27 rfl hi ?_)
      refine HR.out.mono ?_
      rintro e w1 ⟨rfl, hb1⟩
      have k1 := k.below hb1 k.lt
      clear HR
      go_wp2_with (refine wpList_load_row rfl 27 _ rfl w.heap.size rfl 27 _ (0, 0) _ k1 Tryd.underlying27 rfl hi ?_)
      refine (HCC.out _).mono ?_
      rintro e w2 ⟨rfl, hb2⟩
      go_wp2
      go_ret3
      exact ⟨rfl, (hB.trans (hb1.mono hB.size)).trans (hb2.mono (Nat.le_trans hB.size hb1.size))⟩
    · rw [spanE_no (m := m) (i := i) (by omega)]
      clear HC hm
      generalize countE m = N at *
      generalize manC m su = MC at *
      go_enter Tryd.func14, Tryd.ntmps14
      go_wp2_with (refine load_guarded rfl 27 _ rfl w.heap.size rfl 27 _ (0, 0) _ k Tryd.underlying27 rfl hi ?_)
      refine HR.out.mono ?_
      rintro e w1 ⟨rfl, hb1⟩
      clear HR
      go_wp2
      go_ret3
      exact ⟨rfl, hB.trans (hb1.mono hB.size)⟩
end Go.Proofs.YthophonofaaafaaDoor
