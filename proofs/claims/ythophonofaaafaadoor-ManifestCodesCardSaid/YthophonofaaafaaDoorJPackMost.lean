/-
  What is proved here: pack.mostOfFields, Right and Most answer as the plain functions do: whether fields may be, and how many bytes their records have at most. pack.mostOfFields, Right and Most answer as the plain functions do: whether fields may be, and how many bytes their records have at most.
  Conditions: the fields lie in memory as slices of fields.
-/
import Derived.Test.YthophonofaaafaaDoorJPackWidth
namespace Go.Proofs.YthophonofaaafaaDoor
open Go.RowKit

theorem mostSum_append (M : List Fld → Option Nat) (a b : List Fld) : mostSum M (a ++ b) = match mostSum M a, mostSum M b with
    | some x, some y => some (x + y)
    | _, _ => none := by
  induction a with
  | nil => simp only [List.nil_append, mostSum]; cases mostSum M b <;> simp
  | cons f a ih =>
    rw [List.cons_append, mostSum, mostSum]
    cases mostOne M f with
    | none => rfl
    | some x =>
      simp only [ih]
      cases mostSum M a with
      | none => rfl
      | some y =>
        cases mostSum M b with
        | none => rfl
        | some z => simp [Nat.add_assoc]
theorem mostSum_snoc (M : List Fld → Option Nat) (l : List Fld) (I : Nat) (f : Fld) (S a : Nat) (h : l[I]? = some f) (hS : mostSum M (l.take I) = some S) (ha : mostOne M f = some a) : mostSum M (l.take (I + 1)) = some (S + a) := by
  rw [List.take_add_one, h, mostSum_append, hS]
  simp [mostSum, ha]
theorem mostSum_none (M : List Fld → Option Nat) (l : List Fld) (I : Nat) (f : Fld) (h : l[I]? = some f) (ha : mostOne M f = none) : mostSum M l = none := by
  have hs : l = l.take I ++ (f :: l.drop (I + 1)) := by
    obtain ⟨h1, h2⟩ := List.getElem?_eq_some_iff.1 h
    rw [← h2, List.getElem_cons_drop, List.take_append_drop]
  rw [hs, mostSum_append]
  have : mostSum M (f :: l.drop (I + 1)) = none := by rw [mostSum, ha]
  rw [this]
  cases mostSum M (l.take I) <;> rfl

def mostFsSaid (r : Nat) : Prop := ∀ (n : Nat) (v : Value) (l : List Fld) (w : World) (d : Int), d = 5 - (r : Int) → Flds w n v l →
    Calls Tryd.prog 72 #[v, .int .i64 d] w fun e w' => e = .returned (.tuple #[.int .u64 (((mostL r l).getD 0 : Nat) : Int), .bool (mostL r l).isSome]) ∧ Below w.heap.size w w'

theorem mostOne_a {M : List Fld → Option Nat} {f : Fld} (h : f.max < f.min) : mostOne M f = none := by unfold mostOne; rw [if_pos h]
theorem mostOne_b {M : List Fld → Option Nat} {f : Fld} (h : f.kind ≠ 1) (h2 : 65536 < f.max) : mostOne M f = none := by
  unfold mostOne
  split
  · rfl
  · rw [if_pos ⟨h, h2⟩]
theorem mostOne_1 {M : List Fld → Option Nat} {f : Fld} (h1 : ¬ f.max < f.min) (hk : f.kind = 1) : mostOne M f = if f.of.length = 0 then some (wid (f.max - f.min)) else none := by
  unfold mostOne
  rw [if_neg h1, if_neg (by simp [hk]), if_pos hk]
theorem mostOne_2 {M : List Fld → Option Nat} {f : Fld} (h1 : ¬ f.max < f.min) (h2 : ¬ 65536 < f.max) (hk : f.kind = 2) : mostOne M f = if f.of.length = 0 then some (wid (f.max - f.min) + f.max) else none := by
  unfold mostOne
  rw [if_neg h1, if_neg (by omega), if_neg (by omega), if_pos hk]
theorem mostOne_3 {M : List Fld → Option Nat} {f : Fld} (h1 : ¬ f.max < f.min) (h2 : ¬ 65536 < f.max) (hk : f.kind = 3) : mostOne M f = (M f.of).map (fun k => wid (f.max - f.min) + f.max * k) := by
  unfold mostOne
  rw [if_neg h1, if_neg (by omega), if_neg (by omega), if_neg (by omega), if_pos hk]
theorem mostOne_4 {M : List Fld → Option Nat} {f : Fld} (h1 : f.kind ≠ 1) (h2 : f.kind ≠ 2) (h3 : f.kind ≠ 3) : mostOne M f = none := by
  unfold mostOne
  simp [h1, h2, h3]

set_option maxRecDepth 100000 in
set_option maxHeartbeats 1000000 in
theorem mostF_any (r : Nat) (hr : r < 4) (ih : mostFsSaid r) (f : Fld) (n : Nat) (o : Value) (w : World) (d : Int) (hd : d = 5 - ((r + 1 : Nat) : Int)) (hx : f.max < 18446744073709551616) (ho : Flds w n o f.of) :
    Calls Tryd.prog 85 #[fldV f o, .int .i64 d] w fun e w' => ∃ x : Nat, e = .returned (.tuple #[.int .u64 (x : Int), .bool (mostOne (mostL r) f).isSome]) ∧ (∀ m, mostOne (mostL r) f = some m → x = m) ∧ Below w.heap.size w w' := by
  obtain ⟨ao, c, hov, hol, _⟩ := ho.form
  have HW : Hid (f.min ≤ f.max → ∀ W, Calls Tryd.prog 88 #[fldV f o] W fun e w' => e = .returned (.int .i64 (wid (f.max - f.min) : Int)) ∧ Below W.heap.size W w') := fun h W => width_any f o h hx W
  have HI : Hid (∀ W, Keeps w W → Calls Tryd.prog 72 #[o, .int .i64 (d + 1)] W fun e w' => e = .returned (.tuple #[.int .u64 (((mostL r f.of).getD 0 : Nat) : Int), .bool (mostL r f.of).isSome]) ∧ Below W.heap.size W w') := fun W hW => ih n o f.of W (d + 1) (by omega) (ho.keeps hW _ _ _)
  have hd1 : d ≤ 5 := by omega
  have hd0 : 0 ≤ d := by omega
  clear hd
  have hwl := wid_le (f.max - f.min)
  unfold maxLen at hol
  subst hov
  unfold fldV at HW ⊢
  have hA : Below w.heap.size w (w.alloc (.cells #[.int .i64 f.kind, .int .u64 (f.min : Int), .int .u64 (f.max : Int), .slice ao f.of.length c] 83)) := (Below.refl _ _).alloc (Nat.le_refl _) _
  by_cases h1 : f.max < f.min
  · have hres : Hid (mostOne (mostL r) f = none) := mostOne_a h1
    have i1 : (f.max : Int) < (f.min : Int) := by omega
    go_enter Tryd.func85, Tryd.ntmps85
    go_wp2
    go_ret2
    exact ⟨0, by rw [hres.out]; rfl, fun m hm => (by rw [hres.out] at hm; cases hm), hA⟩
  have i1 : ¬ (f.max : Int) < (f.min : Int) := by omega
  by_cases h2 : f.kind ≠ 1 ∧ 65536 < f.max
  · have hres : Hid (mostOne (mostL r) f = none) := mostOne_b h2.1 h2.2
    have i2 : (65536 : Int) < (f.max : Int) := by omega
    have i3 : (f.kind != 1) = true := by simpa using h2.1
    go_enter Tryd.func85, Tryd.ntmps85
    go_wp2
    go_ret2
    exact ⟨0, by rw [hres.out]; rfl, fun m hm => (by rw [hres.out] at hm; cases hm), hA⟩
  obtain ⟨ol, hole⟩ : ∃ ol, f.of.length = ol := ⟨_, rfl⟩
  rw [hole] at hol HW HI hA ⊢
  have hwp : 0 ≤ wid (f.max - f.min) := Nat.zero_le _
  by_cases hk1 : f.kind = 1
  · have hres : Hid (mostOne (mostL r) f = if f.of.length = 0 then some (wid (f.max - f.min)) else none) := mostOne_1 h1 hk1
    have hz : ((ol : Int) == 0) = decide (ol = 0) := by by_cases h : ol = 0 <;> simp [h]
    have ik : (f.kind == 1) = true := by simpa using hk1
    have ik' : (f.kind != 1) = false := by simpa using hk1
    clear hk1 h2
    have hw := HW.out (by omega)
    go_enter Tryd.func85, Tryd.ntmps85
    go_wp2_with (first | (go_at_call 88; refine (hw _).mono ?_; rintro e w1 ⟨rfl, hb1⟩; have hB1 : Blk w1 w.heap.size 83 #[.int .i64 f.kind, .int .u64 (f.min : Int), .int .u64 (f.max : Int), .slice ao ol c] := (Blk.new w _ _).below hb1 (by simp); have c0 := hB1.cell (j := 0) rfl; have c2 := hB1.cell (j := 2) rfl; have c3 := hB1.cell (j := 3) rfl; have hBB : Below w.heap.size w w1 := hA.trans (hb1.mono (by simp))))
    go_region
    go_wp2
    go_ret2
    refine ⟨wid (f.max - f.min), ?_, fun m hm => ?_, hBB.drew⟩
    · rw [hres.out, hole]
      by_cases h : ol = 0 <;> simp [h]
    · rw [hres.out] at hm
      split at hm
      · exact Option.some.inj hm
      · cases hm
  have hx2 : ¬ 65536 < f.max := fun h => h2 ⟨hk1, h⟩
  have ix2 : ¬ (65536 : Int) < (f.max : Int) := by omega
  have ik : (f.kind == 1) = false := by simpa using hk1
  have ik' : (f.kind != 1) = true := by simpa using hk1
  by_cases hk2 : f.kind = 2
  · have hres : Hid (mostOne (mostL r) f = if f.of.length = 0 then some (wid (f.max - f.min) + f.max) else none) := mostOne_2 h1 hx2 hk2
    have hz : ((ol : Int) == 0) = decide (ol = 0) := by by_cases h : ol = 0 <;> simp [h]
    have ik2 : (f.kind == 2) = true := by simpa using hk2
    clear hk1 hk2 h2
    have hw := HW.out (by omega)
    go_enter Tryd.func85, Tryd.ntmps85
    go_wp2_with (first | (go_at_call 88; refine (hw _).mono ?_; rintro e w1 ⟨rfl, hb1⟩; have hB1 : Blk w1 w.heap.size 83 #[.int .i64 f.kind, .int .u64 (f.min : Int), .int .u64 (f.max : Int), .slice ao ol c] := (Blk.new w _ _).below hb1 (by simp); have c0 := hB1.cell (j := 0) rfl; have c2 := hB1.cell (j := 2) rfl; have c3 := hB1.cell (j := 3) rfl; have hBB : Below w.heap.size w w1 := hA.trans (hb1.mono (by simp))))
    go_region
    go_wp2
    go_ret2
    refine ⟨wid (f.max - f.min) + f.max, ?_, fun m hm => ?_, hBB.drew⟩
    · rw [hres.out, hole]
      by_cases h : ol = 0 <;> simp [h]
    · rw [hres.out] at hm
      split at hm
      · exact Option.some.inj hm
      · cases hm
  have ik2 : (f.kind == 2) = false := by simpa using hk2
  by_cases hk3 : f.kind = 3
  · have hres : Hid (mostOne (mostL r) f = (mostL r f.of).map (fun k => wid (f.max - f.min) + f.max * k)) := mostOne_3 h1 hx2 hk3
    have ik3 : (f.kind == 3) = true := by simpa using hk3
    clear hk1 hk2 hk3 h2
    have hw := HW.out (by omega)
    have hmk : (mostL r f.of).getD 0 ≤ 1048576 := by
      cases hq : mostL r f.of with
      | none => simp
      | some k => exact mostL_le hq
    have hmul : f.max * (mostL r f.of).getD 0 ≤ 65536 * 1048576 := Nat.mul_le_mul (by omega) hmk
    have hmi : (f.max : Int) * (((mostL r f.of).getD 0 : Nat) : Int) = ((f.max * (mostL r f.of).getD 0 : Nat) : Int) := by simp
    obtain ⟨PM, hPM⟩ : ∃ PM, PM = f.max * (mostL r f.of).getD 0 := ⟨_, rfl⟩
    rw [← hPM] at hmul hmi
    have HPM : Hid (PM = f.max * (mostL r f.of).getD 0) := hPM
    clear hPM
    generalize hMK : (mostL r f.of).getD 0 = MK at HI hmk hmi HPM
    generalize hMB : (mostL r f.of).isSome = MB at HI
    have HMK : Hid ((mostL r f.of).getD 0 = MK) := hMK
    have HMB : Hid ((mostL r f.of).isSome = MB) := hMB
    clear hMK hMB
    go_enter Tryd.func85, Tryd.ntmps85
    go_wp2_with (first | (go_at_call 88; refine (hw _).mono ?_; rintro e w1 ⟨rfl, hb1⟩; have hB1 : Blk w1 w.heap.size 83 #[.int .i64 f.kind, .int .u64 (f.min : Int), .int .u64 (f.max : Int), .slice ao ol c] := (Blk.new w _ _).below hb1 (by simp); have c0 := hB1.cell (j := 0) rfl; have c2 := hB1.cell (j := 2) rfl; have c3 := hB1.cell (j := 3) rfl; have hBB : Below w.heap.size w w1 := hA.trans (hb1.mono (by simp))) | (go_at_call 72; refine (HI.out _ (by exact Keeps.of_below hBB (Nat.le_refl _))).mono ?_; rintro e w2 ⟨rfl, hb2⟩; have d2 := (hB1.below hb2 hB1.lt).cell (j := 2) rfl))
    go_ret2
    refine ⟨wid (f.max - f.min) + PM, ?_, fun m hm => ?_, hBB.trans (hb2.mono hBB.size)⟩
    · rw [hres.out, Option.isSome_map, HMB.out]
      rfl
    · rw [hres.out] at hm
      obtain ⟨k, hk, rfl⟩ := Option.map_eq_some_iff.1 hm
      have h2 := HMK.out
      rw [hk] at h2
      rw [HPM.out, ← h2]; rfl
  have hres : Hid (mostOne (mostL r) f = none) := mostOne_4 hk1 hk2 hk3
  have ik3 : (f.kind == 3) = false := by simpa using hk3
  clear hk1 hk2 hk3 h2
  have hw := HW.out (by omega)
  go_enter Tryd.func85, Tryd.ntmps85
  go_wp2_with (first | (go_at_call 88; refine (hw _).mono ?_; rintro e w1 ⟨rfl, hb1⟩; have hB1 : Blk w1 w.heap.size 83 #[.int .i64 f.kind, .int .u64 (f.min : Int), .int .u64 (f.max : Int), .slice ao ol c] := (Blk.new w _ _).below hb1 (by simp); have c0 := hB1.cell (j := 0) rfl; have c2 := hB1.cell (j := 2) rfl; have c3 := hB1.cell (j := 3) rfl; have hBB : Below w.heap.size w w1 := hA.trans (hb1.mono (by simp))))
  go_ret2
  exact ⟨0, by rw [hres.out]; rfl, fun m hm => (by rw [hres.out] at hm; cases hm), hBB⟩
end Go.Proofs.YthophonofaaafaaDoor
namespace Go.Proofs.YthophonofaaafaaDoor
open Go.RowKit

set_option maxRecDepth 100000 in
set_option maxHeartbeats 1000000 in
theorem mostFs_any : ∀ r, r ≤ 4 → mostFsSaid r
  | 0, _ => by
    intro n v l w d hd hf
    obtain ⟨ao, c, hv, hl, _⟩ := hf.form
    unfold maxLen at hl
    subst hv
    have hd5 : (4 : Int) < d := by omega
    have hr0 : Hid (mostL 0 l = none) := rfl
    clear hd
    go_enter Tryd.func72, Tryd.ntmps72
    go_wp2
    go_ret2
    exact ⟨rfl, Below.refl _ _⟩
  | r + 1, hr => by
    intro n v l w d hd hf
    have ih := mostFs_any r (by omega)
    obtain ⟨ao, c, hv, hl, hcell⟩ := hf.form
    unfold maxLen at hl
    subst hv
    have HM : Hid (mostL (r + 1) l = if l.length < 1 ∨ 16 < l.length then none else match mostSum (mostL r) l with
      | none => none
      | some n => if 1048576 < n then none else some n) := rfl
    obtain ⟨len, hlen⟩ : ∃ len, l.length = len := ⟨_, rfl⟩
    rw [hlen] at hl hcell HM ⊢
    have HF : Hid (∀ (f : Fld) (o : Value) (W : World), f.max < 18446744073709551616 → Flds W (n - 1) o f.of → Calls Tryd.prog 85 #[fldV f o, .int .i64 d] W fun e w' => ∃ x : Nat, e = .returned (.tuple #[.int .u64 (x : Int), .bool (mostOne (mostL r) f).isSome]) ∧ (∀ m, mostOne (mostL r) f = some m → x = m) ∧ Below W.heap.size W w') := fun f o W h1 h2 => mostF_any r (by omega) ih f (n - 1) o W d hd h1 h2
    have hd4 : ¬ (4 : Int) < d := by omega
    have hd0 : 0 ≤ d := by omega
    clear hd
    by_cases h1 : len < 1
    · have hres : Hid (mostL (r + 1) l = none) := by show _ = _; rw [HM.out, if_pos (.inl h1)]
      go_enter Tryd.func72, Tryd.ntmps72
      go_wp2
      go_ret2
      exact ⟨by rw [hres.out]; rfl, Below.refl _ _⟩
    by_cases h16 : 16 < len
    · have hres : Hid (mostL (r + 1) l = none) := by show _ = _; rw [HM.out, if_pos (.inr h16)]
      go_enter Tryd.func72, Tryd.ntmps72
      go_wp2
      go_ret2
      exact ⟨by rw [hres.out]; rfl, Below.refl _ _⟩
    obtain ⟨b, off, rfl, hb, hc, hF⟩ := hcell (by omega)
    go_enter Tryd.func72, Tryd.ntmps72
    go_wp2
    go_loopw [6, 25] (fun m i wr => ∃ I S : Nat, I ≤ len ∧ i = .int .i64 (I : Int) ∧ m = .int .u64 (S : Int) ∧ mostSum (mostL r) (l.take I) = some S ∧ S ≤ 68719476744 * I ∧ Below w.heap.size w wr) (fun _ i _ => len - (intOf i).toNat)
    case atStart => exact ⟨0, 0, Nat.zero_le _, rfl, rfl, rfl, Nat.zero_le _, Below.refl _ _⟩
    case round =>
      obtain ⟨I, S, hI, rfl, rfl, hS, hSb, hB⟩ := hrel
      have HS : Hid (mostSum (mostL r) (l.take I) = some S) := hS
      clear hS
      by_cases hlt : I < len
      · obtain ⟨f, hf1⟩ : ∃ f, l[I]? = some f := ⟨l[I], List.getElem?_eq_getElem (by omega)⟩
        have K := Keeps.of_below hB (Nat.le_refl _)
        obtain ⟨c0, c1, c2, ⟨o, c3, hof⟩, hmn, hmx⟩ := (hF I f hf1).keeps K (fun v l h => Flds.keeps K _ v l h)
        have i1 : (I : Int) < (len : Int) := by omega
        have HC : Hid (∀ W, Keeps wr W → Calls Tryd.prog 85 #[fldV f o, .int .i64 d] W fun e w' => ∃ x : Nat, e = .returned (.tuple #[.int .u64 (x : Int), .bool (mostOne (mostL r) f).isSome]) ∧ (∀ m, mostOne (mostL r) f = some m → x = m) ∧ Below W.heap.size W w') := fun W hW => HF.out f o W hmx (Flds.keeps hW _ _ _ hof)
        unfold fldV at HC
        obtain ⟨ao2, cc2, ho2, _, _⟩ := hof.form
        subst ho2
        have s1 := hB.size
        have HN : Hid (mostOne (mostL r) f = none → mostL (r + 1) l = none) := fun h => by rw [HM.out, if_neg (by omega), mostSum_none _ l I f hf1 h]
        have HA : Hid (∀ a, mostOne (mostL r) f = some a → mostSum (mostL r) (l.take (I + 1)) = some (S + a) ∧ a ≤ 68719476744) := fun a h => ⟨mostSum_snoc _ l I f S a hf1 HS.out h, mostOne_le h⟩
        cases hmo : mostOne (mostL r) f with
        | none =>
          rw [hmo] at HC
          go_wp2_with (go_at_call 85; refine (HC.out _ (by exact Keeps.of_below ((Below.refl wr.heap.size wr).alloc (Nat.le_refl _) _) (Nat.le_refl _))).mono ?_; rintro e w2 ⟨x, rfl, _, hb2⟩)
          go_ret2
          refine ⟨by rw [HN.out hmo]; rfl, ?_⟩
          exact hB.trans ((((Below.refl wr.heap.size wr).alloc (Nat.le_refl _) _).trans (hb2.mono (by simp))).mono s1)
        | some a =>
          rw [hmo] at HC
          have hab := (HA.out a hmo).2
          go_wp2_with (go_at_call 85; refine (HC.out _ (by exact Keeps.of_below ((Below.refl wr.heap.size wr).alloc (Nat.le_refl _) _) (Nat.le_refl _))).mono ?_; rintro e w2 ⟨x, rfl, hx2, hb2⟩; obtain rfl := hx2 a rfl)
          go_roundw
          case rel => exact ⟨I + 1, S + x, hlt, by go_num, by go_num, (HA.out x hmo).1, by omega, hB.trans ((((Below.refl wr.heap.size wr).alloc (Nat.le_refl _) _).trans (hb2.mono (by simp))).mono s1)⟩
          case measure => simp [intOf]; omega
      · have HE : Hid (mostSum (mostL r) l = some S) := by show _ = _; rw [← HS.out, List.take_of_length_le (by omega)]
        have HM2 : Hid (mostL (r + 1) l = if 1048576 < S then none else some S) := by show _ = _; rw [HM.out, if_neg (by omega), HE.out]
        have i1 : ¬ (I : Int) < (len : Int) := by omega
        by_cases hbig : 1048576 < S
        · go_wp2
          go_ret2
          exact ⟨by rw [HM2.out, if_pos hbig]; rfl, hB⟩
        · go_wp2
          go_ret2
          exact ⟨by rw [HM2.out, if_neg hbig]; rfl, hB⟩

set_option maxRecDepth 100000 in
theorem right_any (n : Nat) (v : Value) (l : List Fld) (w : World) (hf : Flds w n v l) :
    Calls Tryd.prog 58 #[v] w fun e w' => e = .returned (.bool (mostL 4 l).isSome) ∧ Below w.heap.size w w' := by
  obtain ⟨ao, c, rfl, _, _⟩ := hf.form
  go_enter Tryd.func58, Tryd.ntmps58
  go_wp2_with (go_at_call 72; refine (mostFs_any 4 (by omega) n _ l _ 1 (by decide) hf).mono ?_; rintro e w1 ⟨rfl, hb1⟩)
  go_ret
  exact ⟨rfl, hb1⟩

end Go.Proofs.YthophonofaaafaaDoor
