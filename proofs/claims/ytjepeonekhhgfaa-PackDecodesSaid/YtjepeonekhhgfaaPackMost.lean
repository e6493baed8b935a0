/-
  What is proved here: pack.mostOfFields, Right and Most answer as the plain functions do: whether fields may be, and how many bytes their records have at most.
  Conditions: the fields lie in memory as slices of fields.
-/
import Derived.Test.YtjepeonekhhgfaaPackWidth
namespace Go.Proofs.Ytjepeonekhhgfaa
open Go.RowKit

theorem mostSum_append (M : List Fld → Option Nat) (a b : List Fld) : mostSum M (a ++ b) = match mostSum M a, mostSum M b with
    | some x, some y => some (x + y)
    | _, _ => none := by
  induction a with
  | nil => simp only [List.nil_append, mostSum]; cases mostSum M b <;> simp
  | cons f a ih =>
    rw [List.cons_append, mostSum, mostSum]
    cases mostOne M f with
    | none => rfl
    | some x =>
      simp only [ih]
      cases mostSum M a with
      | none => rfl
      | some y =>
        cases mostSum M b with
        | none => rfl
        | some z => simp [Nat.add_assoc]
theorem mostSum_snoc (M : List Fld → Option Nat) (l : List Fld) (I : Nat) (f : Fld) (S a : Nat) (h : l[I]? = some f) (hS : mostSum M (l.take I) = some S) (ha : mostOne M f = some a) : mostSum M (l.take (I + 1)) = some (S + a) := by
  rw [List.take_add_one, h, mostSum_append, hS]
  simp [mostSum, ha]
theorem mostSum_none (M : List Fld → Option Nat) (l : List Fld) (I : Nat) (f : Fld) (h : l[I]? = some f) (ha : mostOne M f = none) : mostSum M l = none := by
  have hs : l = l.take I ++ (f :: l.drop (I + 1)) := by
    obtain ⟨h1, h2⟩ := List.getElem?_eq_some_iff.1 h
    rw [← h2, List.getElem_cons_drop, List.take_append_drop]
  rw [hs, mostSum_append]
  have : mostSum M (f :: l.drop (I + 1)) = none := by rw [mostSum, ha]
  rw [this]
  cases mostSum M (l.take I) <;> rfl

def mostFsSaid (r : Nat) : Prop := ∀ (n : Nat) (v : Value) (l : List Fld) (w : World) (d : Int), d = 5 - (r : Int) → Flds w n v l →
    Calls Try.prog 22 #[v, .int .i64 d] w fun e w' => e = .returned (.tuple #[.int .u64 (((mostL r l).getD 0 : Nat) : Int), .bool (mostL r l).isSome]) ∧ Below w.heap.size w w'

theorem mostOne_a {M : List Fld → Option Nat} {f : Fld} (h : f.max < f.min) : mostOne M f = none := by unfold mostOne; rw [if_pos h]
theorem mostOne_b {M : List Fld → Option Nat} {f : Fld} (h : f.kind ≠ 1) (h2 : 65536 < f.max) : mostOne M f = none := by
  unfold mostOne
  split
  · rfl
  · rw [if_pos ⟨h, h2⟩]
theorem mostOne_1 {M : List Fld → Option Nat} {f : Fld} (h1 : ¬ f.max < f.min) (hk : f.kind = 1) : mostOne M f = if f.of.length = 0 then some (wid (f.max - f.min)) else none := by
  unfold mostOne
  rw [if_neg h1, if_neg (by simp [hk]), if_pos hk]
theorem mostOne_2 {M : List Fld → Option Nat} {f : Fld} (h1 : ¬ f.max < f.min) (h2 : ¬ 65536 < f.max) (hk : f.kind = 2) : mostOne M f = if f.of.length = 0 then some (wid (f.max - f.min) + f.max) else none := by
  unfold mostOne
  rw [if_neg h1, if_neg (by omega), if_neg (by omega), if_pos hk]
theorem mostOne_3 {M : List Fld → Option Nat} {f : Fld} (h1 : ¬ f.max < f.min) (h2 : ¬ 65536 < f.max) (hk : f.kind = 3) : mostOne M f = (M f.of).map (fun k => wid (f.max - f.min) + f.max * k) := by
  unfold mostOne
  rw [if_neg h1, if_neg (by omega), if_neg (by omega), if_neg (by omega), if_pos hk]
theorem mostOne_4 {M : List Fld → Option Nat} {f : Fld} (h1 : f.kind ≠ 1) (h2 : f.kind ≠ 2) (h3 : f.kind ≠ 3) : mostOne M f = none := by
  unfold mostOne
  simp [h1, h2, h3]

set_option maxRecDepth 100000 in
set_option maxHeartbeats 1000000 in
theorem mostF_any (r : Nat) (hr : r < 4) (ih : mostFsSaid r) (f : Fld) (n : Nat) (o : Value) (w : World) (d : Int) (hd : d = 5 - ((r + 1 : Nat) : Int)) (hx : f.max < 18446744073709551616) (ho : Flds w n o f.of) :
    Calls Try.prog 30 #[fldV f o, .int .i64 d] w fun e w' => ∃ x : Nat, e = .returned (.tuple #[.int .u64 (x : Int), .bool (mostOne (mostL r) f).isSome]) ∧ (∀ m, mostOne (mostL r) f = some m → x = m) ∧ Below w.heap.size w w' := by
  obtain ⟨ao, c, hov, hol, _⟩ := ho.form
  have HW : Hid (f.min ≤ f.max → ∀ W, Calls Try.prog 39 #[fldV f o] W fun e w' => e = .returned (.int .i64 (wid (f.max - f.min) : Int)) ∧ Below W.heap.size W w') := fun h W => width_any f o h hx W
  have HI : Hid (∀ W, Keeps w W → Calls Try.prog 22 #[o, .int .i64 (d + 1)] W fun e w' => e = .returned (.tuple #[.int .u64 (((mostL r f.of).getD 0 : Nat) : Int), .bool (mostL r f.of).isSome]) ∧ Below W.heap.size W w') := fun W hW => ih n o f.of W (d + 1) (by omega) (ho.keeps hW _ _ _)
  have hd1 : d ≤ 5 := by omega
  have hd0 : 0 ≤ d := by omega
  clear hd
  have hwl := wid_le (f.max - f.min)
  unfold maxLen at hol
  subst hov
  unfold fldV at HW ⊢
  have hA : Below w.heap.size w (w.alloc (.cells #[.int .i64 f.kind, .int .u64 (f.min : Int), .int .u64 (f.max : Int), .slice ao f.of.length c] 44)) := (Below.refl _ _).alloc (Nat.le_refl _) _
  by_cases h1 : f.max < f.min
  · have hres : Hid (mostOne (mostL r) f = none) := mostOne_a h1
    have i1 : (f.max : Int) < (f.min : Int) := by omega
    go_enter Try.func30, Try.ntmps30
    go_wp2
    go_ret2
    exact ⟨0, by rw [hres.out]; rfl, fun m hm => (by rw [hres.out] at hm; cases hm), hA⟩
  have i1 : ¬ (f.max : Int) < (f.min : Int) := by omega
  by_cases h2 : f.kind ≠ 1 ∧ 65536 < f.max
  · have hres : Hid (mostOne (mostL r) f = none) := mostOne_b h2.1 h2.2
    have i2 : (65536 : Int) < (f.max : Int) := by omega
    have i3 : (f.kind != 1) = true := by simpa using h2.1
    go_enter Try.func30, Try.ntmps30
    go_wp2
    go_ret2
    exact ⟨0, by rw [hres.out]; rfl, fun m hm => (by rw [hres.out] at hm; cases hm), hA⟩
  obtain ⟨ol, hole⟩ : ∃ ol, f.of.length = ol := ⟨_, rfl⟩
  rw [hole] at hol HW HI hA ⊢
  have hwp : 0 ≤ wid (f.max - f.min) := Nat.zero_le _
  by_cases hk1 : f.kind = 1
  · have hres : Hid (mostOne (mostL r) f = if f.of.length = 0 then some (wid (f.max - f.min)) else none) := mostOne_1 h1 hk1
    have hz : ((ol : Int) == 0) = decide (ol = 0) := by by_cases h : ol = 0 <;> simp [h]
    have ik : (f.kind == 1) = true := by simpa using hk1
    have ik' : (f.kind != 1) = false := by simpa using hk1
    clear hk1 h2
    have hw := HW.out (by omega)
    go_enter Try.func30, Try.ntmps30
    go_wp2_with (first | (go_at_call 39; refine (hw _).mono ?_; rintro e w1 ⟨rfl, hb1⟩; have hB1 : Blk w1 w.heap.size 44 #[.int .i64 f.kind, .int .u64 (f.min : Int), .int .u64 (f.max : Int), .slice ao ol c] := (Blk.new w _ _).below hb1 (by simp); have c0 := hB1.cell (j := 0) rfl; have c2 := hB1.cell (j := 2) rfl; have c3 := hB1.cell (j := 3) rfl; have hBB : Below w.heap.size w w1 := hA.trans (hb1.mono (by simp))))
    go_region
    go_wp2
    go_ret2
    refine ⟨wid (f.max - f.min), ?_, fun m hm => ?_, hBB.drew⟩
    · rw [hres.out, hole]
      by_cases h : ol = 0 <;> simp [h]
    · rw [hres.out] at hm
      split at hm
      · exact Option.some.inj hm
      · cases hm
  have hx2 : ¬ 65536 < f.max := fun h => h2 ⟨hk1, h⟩
  have ix2 : ¬ (65536 : Int) < (f.max : Int) := by omega
  have ik : (f.kind == 1) = false := by simpa using hk1
  have ik' : (f.kind != 1) = true := by simpa using hk1
  by_cases hk2 : f.kind = 2
  · have hres : Hid (mostOne (mostL r) f = if f.of.length = 0 then some (wid (f.max - f.min) + f.max) else none) := mostOne_2 h1 hx2 hk2
    have hz : ((ol : Int) == 0) = decide (ol = 0) := by by_cases h : ol = 0 <;> simp [h]
    have ik2 : (f.kind == 2) = true := by simpa using hk2
    clear hk1 hk2 h2
    have hw := HW.out (by omega)
    go_enter Try.func30, Try.ntmps30
    go_wp2_with (first | (go_at_call 39; refine (hw _).mono ?_; rintro e w1 ⟨rfl, hb1⟩; have hB1 : Blk w1 w.heap.size 44 #[.int .i64 f.kind, .int .u64 (f.min : Int), .int .u64 (f.max : Int), .slice ao ol c] := (Blk.new w _ _).below hb1 (by simp); have c0 := hB1.cell (j := 0) rfl; have c2 := hB1.cell (j := 2) rfl; have c3 := hB1.cell (j := 3) rfl; have hBB : Below w.heap.size w w1 := hA.trans (hb1.mono (by simp))))
    go_region
    go_wp2
    go_ret2
    refine ⟨wid (f.max - f.min) + f.max, ?_, fun m hm => ?_, hBB.drew⟩
    · rw [hres.out, hole]
      by_cases h : ol = 0 <;> simp [h]
    · rw [hres.out] at hm
      split at hm
      · exact Option.some.inj hm
      · cases hm
  have ik2 : (f.kind == 2) = false := by simpa using hk2
  by_cases hk3 : f.kind = 3
  · have hres : Hid (mostOne (mostL r) f = (mostL r f.of).map (fun k => wid (f.max - f.min) + f.max * k)) := mostOne_3 h1 hx2 hk3
    have ik3 : (f.kind == 3) = true := by simpa using hk3
    clear hk1 hk2 hk3 h2
    have hw := HW.out (by omega)
    have hmk : (mostL r f.of).getD 0 ≤ 1048576 := by
      cases hq : mostL r f.of with
      | none => simp
      | some k => exact mostL_le hq
    have hmul : f.max * (mostL r f.of).getD 0 ≤ 65536 * 1048576 := Nat.mul_le_mul (by omega) hmk
    have hmi : (f.max : Int) * (((mostL r f.of).getD 0 : Nat) : Int) = ((f.max * (mostL r f.of).getD 0 : Nat) : Int) := by simp
    obtain ⟨PM, hPM⟩ : ∃ PM, PM = f.max * (mostL r f.of).getD 0 := ⟨_, rfl⟩
    rw [← hPM] at hmul hmi
    have HPM : Hid (PM = f.max * (mostL r f.of).getD 0) := hPM
    clear hPM
    generalize hMK : (mostL r f.of).getD 0 = MK at HI hmk hmi HPM
    generalize hMB : (mostL r f.of).isSome = MB at HI
    have HMK : Hid ((mostL r f.of).getD 0 = MK) := hMK
    have HMB : Hid ((mostL r f.of).isSome = MB) := hMB
    clear hMK hMB
    go_enter Try.func30, Try.ntmps30
    go_wp2_with (first | (go_at_call 39; refine (hw _).mono ?_; rintro e w1 ⟨rfl, hb1⟩; have hB1 : Blk w1 w.heap.size 44 #[.int .i64 f.kind, .int .u64 (f.min : Int), .int .u64 (f.max : Int), .slice ao ol c] := (Blk.new w _ _).below hb1 (by simp); have c0 := hB1.cell (j := 0) rfl; have c2 := hB1.cell (j := 2) rfl; have c3 := hB1.cell (j := 3) rfl; have hBB : Below w.heap.size w w1 := hA.trans (hb1.mono (by simp))) | (go_at_call 22; refine (HI.out _ (by exact Keeps.of_below hBB (Nat.le_refl _))).mono ?_; rintro e w2 ⟨rfl, hb2⟩; have d2 := (hB1.below hb2 hB1.lt).cell (j := 2) rfl))
    go_ret2
    refine ⟨wid (f.max - f.min) + PM, ?_, fun m hm => ?_, hBB.trans (hb2.mono hBB.size)⟩
    · rw [hres.out, Option.isSome_map, HMB.out]
      rfl
    · rw [hres.out] at hm
      obtain ⟨k, hk, rfl⟩ := Option.map_eq_some_iff.1 hm
      have h2 := HMK.out
      rw [hk] at h2
      rw [HPM.out, ← h2]; rfl
  have hres : Hid (mostOne (mostL r) f = none) := mostOne_4 hk1 hk2 hk3
  have ik3 : (f.kind == 3) = false := by simpa using hk3
  clear hk1 hk2 hk3 h2
  have hw := HW.out (by omega)
  go_enter Try.func30, Try.ntmps30
  go_wp2_with (first | (go_at_call 39; refine (hw _).mono ?_; rintro e w1 ⟨rfl, hb1⟩; have hB1 : Blk w1 w.heap.size 44 #[.int .i64 f.kind, .int .u64 (f.min : Int), .int .u64 (f.max : Int), .slice ao ol c] := (Blk.new w _ _).below hb1 (by simp); have c0 := hB1.cell (j := 0) rfl; have c2 := hB1.cell (j := 2) rfl; have c3 := hB1.cell (j := 3) rfl; have hBB : Below w.heap.size w w1 := hA.trans (hb1.mono (by simp))))
  go_ret2
  exact ⟨0, by rw [hres.out]; rfl, fun m hm => (by rw [hres.out] at hm; cases hm), hBB⟩
end Go.Proofs.Ytjepeonekhhgfaa
