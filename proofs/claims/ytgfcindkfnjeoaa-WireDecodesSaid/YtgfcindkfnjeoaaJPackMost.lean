/-
  What is proved here: pack.mostOfFields, Right and Most answer as the plain functions do: whether fields may be, and how many bytes their records have at most. pack.mostOfFields, Right and Most answer as the plain functions do: whether fields may be, and how many bytes their records have at most. pack.appendRecord and pack.Encode answer the bytes of a record as the plain functions tell, or that it does not fit.
  Conditions: the fields lie in memory as slices of fields. fields and values lie in memory.
-/
import Derived.Test.YtgfcindkfnjeoaaJPackWidth
import Derived.Test.YtgfcindkfnjeoaaJPackEnc
namespace Go.Proofs.Ytgfcindkfnjeoaa
open Go.RowKit

theorem mostSum_append (M : List Fld → Option Nat) (a b : List Fld) : mostSum M (a ++ b) = match mostSum M a, mostSum M b with
    | some x, some y => some (x + y)
    | _, _ => none := by
  induction a with
  | nil => simp only [List.nil_append, mostSum]; cases mostSum M b <;> simp
  | cons f a ih =>
    rw [List.cons_append, mostSum, mostSum]
    cases mostOne M f with
    | none => rfl
    | some x =>
      simp only [ih]
      cases mostSum M a with
      | none => rfl
      | some y =>
        cases mostSum M b with
        | none => rfl
        | some z => simp [Nat.add_assoc]
theorem mostSum_snoc (M : List Fld → Option Nat) (l : List Fld) (I : Nat) (f : Fld) (S a : Nat) (h : l[I]? = some f) (hS : mostSum M (l.take I) = some S) (ha : mostOne M f = some a) : mostSum M (l.take (I + 1)) = some (S + a) := by
  rw [List.take_add_one, h, mostSum_append, hS]
  simp [mostSum, ha]
theorem mostSum_none (M : List Fld → Option Nat) (l : List Fld) (I : Nat) (f : Fld) (h : l[I]? = some f) (ha : mostOne M f = none) : mostSum M l = none := by
  have hs : l = l.take I ++ (f :: l.drop (I + 1)) := by
    obtain ⟨h1, h2⟩ := List.getElem?_eq_some_iff.1 h
    rw [← h2, List.getElem_cons_drop, List.take_append_drop]
  rw [hs, mostSum_append]
  have : mostSum M (f :: l.drop (I + 1)) = none := by rw [mostSum, ha]
  rw [this]
  cases mostSum M (l.take I) <;> rfl

def mostFsSaid (r : Nat) : Prop := ∀ (n : Nat) (v : Value) (l : List Fld) (w : World) (d : Int), d = 5 - (r : Int) → Flds w n v l →
    Calls Try.prog 49 #[v, .int .i64 d] w fun e w' => e = .returned (.tuple #[.int .u64 (((mostL r l).getD 0 : Nat) : Int), .bool (mostL r l).isSome]) ∧ Below w.heap.size w w'

theorem mostOne_a {M : List Fld → Option Nat} {f : Fld} (h : f.max < f.min) : mostOne M f = none := by unfold mostOne; rw [if_pos h]
theorem mostOne_b {M : List Fld → Option Nat} {f : Fld} (h : f.kind ≠ 1) (h2 : 65536 < f.max) : mostOne M f = none := by
  unfold mostOne
  split
  · rfl
  · rw [if_pos ⟨h, h2⟩]
theorem mostOne_1 {M : List Fld → Option Nat} {f : Fld} (h1 : ¬ f.max < f.min) (hk : f.kind = 1) : mostOne M f = if f.of.length = 0 then some (wid (f.max - f.min)) else none := by
  unfold mostOne
  rw [if_neg h1, if_neg (by simp [hk]), if_pos hk]
theorem mostOne_2 {M : List Fld → Option Nat} {f : Fld} (h1 : ¬ f.max < f.min) (h2 : ¬ 65536 < f.max) (hk : f.kind = 2) : mostOne M f = if f.of.length = 0 then some (wid (f.max - f.min) + f.max) else none := by
  unfold mostOne
  rw [if_neg h1, if_neg (by omega), if_neg (by omega), if_pos hk]
theorem mostOne_3 {M : List Fld → Option Nat} {f : Fld} (h1 : ¬ f.max < f.min) (h2 : ¬ 65536 < f.max) (hk : f.kind = 3) : mostOne M f = (M f.of).map (fun k => wid (f.max - f.min) + f.max * k) := by
  unfold mostOne
  rw [if_neg h1, if_neg (by omega), if_neg (by omega), if_neg (by omega), if_pos hk]
theorem mostOne_4 {M : List Fld → Option Nat} {f : Fld} (h1 : f.kind ≠ 1) (h2 : f.kind ≠ 2) (h3 : f.kind ≠ 3) : mostOne M f = none := by
  unfold mostOne
  simp [h1, h2, h3]

set_option maxRecDepth 100000 in
set_option maxHeartbeats 1000000 in
theorem mostF_any (r : Nat) (hr : r < 4) (ih : mostFsSaid r) (f : Fld) (n : Nat) (o : Value) (w : World) (d : Int) (hd : d = 5 - ((r + 1 : Nat) : Int)) (hx : f.max < 18446744073709551616) (ho : Flds w n o f.of) :
    Calls Try.prog 67 #[fldV f o, .int .i64 d] w fun e w' => ∃ x : Nat, e = .returned (.tuple #[.int .u64 (x : Int), .bool (mostOne (mostL r) f).isSome]) ∧ (∀ m, mostOne (mostL r) f = some m → x = m) ∧ Below w.heap.size w w' := by
  obtain ⟨ao, c, hov, hol, _⟩ := ho.form
  have HW : Hid (f.min ≤ f.max → ∀ W, Calls Try.prog 70 #[fldV f o] W fun e w' => e = .returned (.int .i64 (wid (f.max - f.min) : Int)) ∧ Below W.heap.size W w') := fun h W => width_any f o h hx W
  have HI : Hid (∀ W, Keeps w W → Calls Try.prog 49 #[o, .int .i64 (d + 1)] W fun e w' => e = .returned (.tuple #[.int .u64 (((mostL r f.of).getD 0 : Nat) : Int), .bool (mostL r f.of).isSome]) ∧ Below W.heap.size W w') := fun W hW => ih n o f.of W (d + 1) (by omega) (ho.keeps hW _ _ _)
  have hd1 : d ≤ 5 := by omega
  have hd0 : 0 ≤ d := by omega
  clear hd
  have hwl := wid_le (f.max - f.min)
  unfold maxLen at hol
  subst hov
  unfold fldV at HW ⊢
  have hA : Below w.heap.size w (w.alloc (.cells #[.int .i64 f.kind, .int .u64 (f.min : Int), .int .u64 (f.max : Int), .slice ao f.of.length c] 62)) := (Below.refl _ _).alloc (Nat.le_refl _) _
  by_cases h1 : f.max < f.min
  · have hres : Hid (mostOne (mostL r) f = none) := mostOne_a h1
    have i1 : (f.max : Int) < (f.min : Int) := by omega
    go_enter Try.func67, Try.ntmps67
    go_wp2
    go_ret2
    exact ⟨0, by rw [hres.out]; rfl, fun m hm => (by rw [hres.out] at hm; cases hm), hA⟩
  have i1 : ¬ (f.max : Int) < (f.min : Int) := by omega
  by_cases h2 : f.kind ≠ 1 ∧ 65536 < f.max
  · have hres : Hid (mostOne (mostL r) f = none) := mostOne_b h2.1 h2.2
    have i2 : (65536 : Int) < (f.max : Int) := by omega
    have i3 : (f.kind != 1) = true := by simpa using h2.1
    go_enter Try.func67, Try.ntmps67
    go_wp2
    go_ret2
    exact ⟨0, by rw [hres.out]; rfl, fun m hm => (by rw [hres.out] at hm; cases hm), hA⟩
  obtain ⟨ol, hole⟩ : ∃ ol, f.of.length = ol := ⟨_, rfl⟩
  rw [hole] at hol HW HI hA ⊢
  have hwp : 0 ≤ wid (f.max - f.min) := Nat.zero_le _
  by_cases hk1 : f.kind = 1
  · have hres : Hid (mostOne (mostL r) f = if f.of.length = 0 then some (wid (f.max - f.min)) else none) := mostOne_1 h1 hk1
    have hz : ((ol : Int) == 0) = decide (ol = 0) := by by_cases h : ol = 0 <;> simp [h]
    have ik : (f.kind == 1) = true := by simpa using hk1
    have ik' : (f.kind != 1) = false := by simpa using hk1
    clear hk1 h2
    have hw := HW.out (by omega)
    go_enter Try.func67, Try.ntmps67
    go_wp2_with (first | (go_at_call 70; refine (hw _).mono ?_; rintro e w1 ⟨rfl, hb1⟩; have hB1 : Blk w1 w.heap.size 62 #[.int .i64 f.kind, .int .u64 (f.min : Int), .int .u64 (f.max : Int), .slice ao ol c] := (Blk.new w _ _).below hb1 (by simp); have c0 := hB1.cell (j := 0) rfl; have c2 := hB1.cell (j := 2) rfl; have c3 := hB1.cell (j := 3) rfl; have hBB : Below w.heap.size w w1 := hA.trans (hb1.mono (by simp))))
    go_region
    go_wp2
    go_ret2
    refine ⟨wid (f.max - f.min), ?_, fun m hm => ?_, hBB.drew⟩
    · rw [hres.out, hole]
      by_cases h : ol = 0 <;> simp [h]
    · rw [hres.out] at hm
      split at hm
      · exact Option.some.inj hm
      · cases hm
  have hx2 : ¬ 65536 < f.max := fun h => h2 ⟨hk1, h⟩
  have ix2 : ¬ (65536 : Int) < (f.max : Int) := by omega
  have ik : (f.kind == 1) = false := by simpa using hk1
  have ik' : (f.kind != 1) = true := by simpa using hk1
  by_cases hk2 : f.kind = 2
  · have hres : Hid (mostOne (mostL r) f = if f.of.length = 0 then some (wid (f.max - f.min) + f.max) else none) := mostOne_2 h1 hx2 hk2
    have hz : ((ol : Int) == 0) = decide (ol = 0) := by by_cases h : ol = 0 <;> simp [h]
    have ik2 : (f.kind == 2) = true := by simpa using hk2
    clear hk1 hk2 h2
    have hw := HW.out (by omega)
    go_enter Try.func67, Try.ntmps67
    go_wp2_with (first | (go_at_call 70; refine (hw _).mono ?_; rintro e w1 ⟨rfl, hb1⟩; have hB1 : Blk w1 w.heap.size 62 #[.int .i64 f.kind, .int .u64 (f.min : Int), .int .u64 (f.max : Int), .slice ao ol c] := (Blk.new w _ _).below hb1 (by simp); have c0 := hB1.cell (j := 0) rfl; have c2 := hB1.cell (j := 2) rfl; have c3 := hB1.cell (j := 3) rfl; have hBB : Below w.heap.size w w1 := hA.trans (hb1.mono (by simp))))
    go_region
    go_wp2
    go_ret2
    refine ⟨wid (f.max - f.min) + f.max, ?_, fun m hm => ?_, hBB.drew⟩
    · rw [hres.out, hole]
      by_cases h : ol = 0 <;> simp [h]
    · rw [hres.out] at hm
      split at hm
      · exact Option.some.inj hm
      · cases hm
  have ik2 : (f.kind == 2) = false := by simpa using hk2
  by_cases hk3 : f.kind = 3
  · have hres : Hid (mostOne (mostL r) f = (mostL r f.of).map (fun k => wid (f.max - f.min) + f.max * k)) := mostOne_3 h1 hx2 hk3
    have ik3 : (f.kind == 3) = true := by simpa using hk3
    clear hk1 hk2 hk3 h2
    have hw := HW.out (by omega)
    have hmk : (mostL r f.of).getD 0 ≤ 1048576 := by
      cases hq : mostL r f.of with
      | none => simp
      | some k => exact mostL_le hq
    have hmul : f.max * (mostL r f.of).getD 0 ≤ 65536 * 1048576 := Nat.mul_le_mul (by omega) hmk
    have hmi : (f.max : Int) * (((mostL r f.of).getD 0 : Nat) : Int) = ((f.max * (mostL r f.of).getD 0 : Nat) : Int) := by simp
    obtain ⟨PM, hPM⟩ : ∃ PM, PM = f.max * (mostL r f.of).getD 0 := ⟨_, rfl⟩
    rw [← hPM] at hmul hmi
    have HPM : Hid (PM = f.max * (mostL r f.of).getD 0) := hPM
    clear hPM
    generalize hMK : (mostL r f.of).getD 0 = MK at HI hmk hmi HPM
    generalize hMB : (mostL r f.of).isSome = MB at HI
    have HMK : Hid ((mostL r f.of).getD 0 = MK) := hMK
    have HMB : Hid ((mostL r f.of).isSome = MB) := hMB
    clear hMK hMB
    go_enter Try.func67, Try.ntmps67
    go_wp2_with (first | (go_at_call 70; refine (hw _).mono ?_; rintro e w1 ⟨rfl, hb1⟩; have hB1 : Blk w1 w.heap.size 62 #[.int .i64 f.kind, .int .u64 (f.min : Int), .int .u64 (f.max : Int), .slice ao ol c] := (Blk.new w _ _).below hb1 (by simp); have c0 := hB1.cell (j := 0) rfl; have c2 := hB1.cell (j := 2) rfl; have c3 := hB1.cell (j := 3) rfl; have hBB : Below w.heap.size w w1 := hA.trans (hb1.mono (by simp))) | (go_at_call 49; refine (HI.out _ (by exact Keeps.of_below hBB (Nat.le_refl _))).mono ?_; rintro e w2 ⟨rfl, hb2⟩; have d2 := (hB1.below hb2 hB1.lt).cell (j := 2) rfl))
    go_ret2
    refine ⟨wid (f.max - f.min) + PM, ?_, fun m hm => ?_, hBB.trans (hb2.mono hBB.size)⟩
    · rw [hres.out, Option.isSome_map, HMB.out]
      rfl
    · rw [hres.out] at hm
      obtain ⟨k, hk, rfl⟩ := Option.map_eq_some_iff.1 hm
      have h2 := HMK.out
      rw [hk] at h2
      rw [HPM.out, ← h2]; rfl
  have hres : Hid (mostOne (mostL r) f = none) := mostOne_4 hk1 hk2 hk3
  have ik3 : (f.kind == 3) = false := by simpa using hk3
  clear hk1 hk2 hk3 h2
  have hw := HW.out (by omega)
  go_enter Try.func67, Try.ntmps67
  go_wp2_with (first | (go_at_call 70; refine (hw _).mono ?_; rintro e w1 ⟨rfl, hb1⟩; have hB1 : Blk w1 w.heap.size 62 #[.int .i64 f.kind, .int .u64 (f.min : Int), .int .u64 (f.max : Int), .slice ao ol c] := (Blk.new w _ _).below hb1 (by simp); have c0 := hB1.cell (j := 0) rfl; have c2 := hB1.cell (j := 2) rfl; have c3 := hB1.cell (j := 3) rfl; have hBB : Below w.heap.size w w1 := hA.trans (hb1.mono (by simp))))
  go_ret2
  exact ⟨0, by rw [hres.out]; rfl, fun m hm => (by rw [hres.out] at hm; cases hm), hBB⟩
end Go.Proofs.Ytgfcindkfnjeoaa
namespace Go.Proofs.Ytgfcindkfnjeoaa
open Go.RowKit

set_option maxRecDepth 100000 in
set_option maxHeartbeats 1000000 in
theorem mostFs_any : ∀ r, r ≤ 4 → mostFsSaid r
  | 0, _ => by
    intro n v l w d hd hf
    obtain ⟨ao, c, hv, hl, _⟩ := hf.form
    unfold maxLen at hl
    subst hv
    have hd5 : (4 : Int) < d := by omega
    have hr0 : Hid (mostL 0 l = none) := rfl
    clear hd
    go_enter Try.func49, Try.ntmps49
    go_wp2
    go_ret2
    exact ⟨rfl, Below.refl _ _⟩
  | r + 1, hr => by
    intro n v l w d hd hf
    have ih := mostFs_any r (by omega)
    obtain ⟨ao, c, hv, hl, hcell⟩ := hf.form
    unfold maxLen at hl
    subst hv
    have HM : Hid (mostL (r + 1) l = if l.length < 1 ∨ 16 < l.length then none else match mostSum (mostL r) l with
      | none => none
      | some n => if 1048576 < n then none else some n) := rfl
    obtain ⟨len, hlen⟩ : ∃ len, l.length = len := ⟨_, rfl⟩
    rw [hlen] at hl hcell HM ⊢
    have HF : Hid (∀ (f : Fld) (o : Value) (W : World), f.max < 18446744073709551616 → Flds W (n - 1) o f.of → Calls Try.prog 67 #[fldV f o, .int .i64 d] W fun e w' => ∃ x : Nat, e = .returned (.tuple #[.int .u64 (x : Int), .bool (mostOne (mostL r) f).isSome]) ∧ (∀ m, mostOne (mostL r) f = some m → x = m) ∧ Below W.heap.size W w') := fun f o W h1 h2 => mostF_any r (by omega) ih f (n - 1) o W d hd h1 h2
    have hd4 : ¬ (4 : Int) < d := by omega
    have hd0 : 0 ≤ d := by omega
    clear hd
    by_cases h1 : len < 1
    · have hres : Hid (mostL (r + 1) l = none) := by show _ = _; rw [HM.out, if_pos (.inl h1)]
      go_enter Try.func49, Try.ntmps49
      go_wp2
      go_ret2
      exact ⟨by rw [hres.out]; rfl, Below.refl _ _⟩
    by_cases h16 : 16 < len
    · have hres : Hid (mostL (r + 1) l = none) := by show _ = _; rw [HM.out, if_pos (.inr h16)]
      go_enter Try.func49, Try.ntmps49
      go_wp2
      go_ret2
      exact ⟨by rw [hres.out]; rfl, Below.refl _ _⟩
    obtain ⟨b, off, rfl, hb, hc, hF⟩ := hcell (by omega)
    go_enter Try.func49, Try.ntmps49
    go_wp2
    go_loopw [6, 25] (fun m i wr => ∃ I S : Nat, I ≤ len ∧ i = .int .i64 (I : Int) ∧ m = .int .u64 (S : Int) ∧ mostSum (mostL r) (l.take I) = some S ∧ S ≤ 68719476744 * I ∧ Below w.heap.size w wr) (fun _ i _ => len - (intOf i).toNat)
    case atStart => exact ⟨0, 0, Nat.zero_le _, rfl, rfl, rfl, Nat.zero_le _, Below.refl _ _⟩
    case round =>
      obtain ⟨I, S, hI, rfl, rfl, hS, hSb, hB⟩ := hrel
      have HS : Hid (mostSum (mostL r) (l.take I) = some S) := hS
      clear hS
      by_cases hlt : I < len
      · obtain ⟨f, hf1⟩ : ∃ f, l[I]? = some f := ⟨l[I], List.getElem?_eq_getElem (by omega)⟩
        have K := Keeps.of_below hB (Nat.le_refl _)
        obtain ⟨c0, c1, c2, ⟨o, c3, hof⟩, hmn, hmx⟩ := (hF I f hf1).keeps K (fun v l h => Flds.keeps K _ v l h)
        have i1 : (I : Int) < (len : Int) := by omega
        have HC : Hid (∀ W, Keeps wr W → Calls Try.prog 67 #[fldV f o, .int .i64 d] W fun e w' => ∃ x : Nat, e = .returned (.tuple #[.int .u64 (x : Int), .bool (mostOne (mostL r) f).isSome]) ∧ (∀ m, mostOne (mostL r) f = some m → x = m) ∧ Below W.heap.size W w') := fun W hW => HF.out f o W hmx (Flds.keeps hW _ _ _ hof)
        unfold fldV at HC
        obtain ⟨ao2, cc2, ho2, _, _⟩ := hof.form
        subst ho2
        have s1 := hB.size
        have HN : Hid (mostOne (mostL r) f = none → mostL (r + 1) l = none) := fun h => by rw [HM.out, if_neg (by omega), mostSum_none _ l I f hf1 h]
        have HA : Hid (∀ a, mostOne (mostL r) f = some a → mostSum (mostL r) (l.take (I + 1)) = some (S + a) ∧ a ≤ 68719476744) := fun a h => ⟨mostSum_snoc _ l I f S a hf1 HS.out h, mostOne_le h⟩
        cases hmo : mostOne (mostL r) f with
        | none =>
          rw [hmo] at HC
          go_wp2_with (go_at_call 67; refine (HC.out _ (by exact Keeps.of_below ((Below.refl wr.heap.size wr).alloc (Nat.le_refl _) _) (Nat.le_refl _))).mono ?_; rintro e w2 ⟨x, rfl, _, hb2⟩)
          go_ret2
          refine ⟨by rw [HN.out hmo]; rfl, ?_⟩
          exact hB.trans ((((Below.refl wr.heap.size wr).alloc (Nat.le_refl _) _).trans (hb2.mono (by simp))).mono s1)
        | some a =>
          rw [hmo] at HC
          have hab := (HA.out a hmo).2
          go_wp2_with (go_at_call 67; refine (HC.out _ (by exact Keeps.of_below ((Below.refl wr.heap.size wr).alloc (Nat.le_refl _) _) (Nat.le_refl _))).mono ?_; rintro e w2 ⟨x, rfl, hx2, hb2⟩; obtain rfl := hx2 a rfl)
          go_roundw
          case rel => exact ⟨I + 1, S + x, hlt, by go_num, by go_num, (HA.out x hmo).1, by omega, hB.trans ((((Below.refl wr.heap.size wr).alloc (Nat.le_refl _) _).trans (hb2.mono (by simp))).mono s1)⟩
          case measure => simp [intOf]; omega
      · have HE : Hid (mostSum (mostL r) l = some S) := by show _ = _; rw [← HS.out, List.take_of_length_le (by omega)]
        have HM2 : Hid (mostL (r + 1) l = if 1048576 < S then none else some S) := by show _ = _; rw [HM.out, if_neg (by omega), HE.out]
        have i1 : ¬ (I : Int) < (len : Int) := by omega
        by_cases hbig : 1048576 < S
        · go_wp2
          go_ret2
          exact ⟨by rw [HM2.out, if_pos hbig]; rfl, hB⟩
        · go_wp2
          go_ret2
          exact ⟨by rw [HM2.out, if_neg hbig]; rfl, hB⟩

set_option maxRecDepth 100000 in
theorem right_any (n : Nat) (v : Value) (l : List Fld) (w : World) (hf : Flds w n v l) :
    Calls Try.prog 30 #[v] w fun e w' => e = .returned (.bool (mostL 4 l).isSome) ∧ Below w.heap.size w w' := by
  obtain ⟨ao, c, rfl, _, _⟩ := hf.form
  go_enter Try.func30, Try.ntmps30
  go_wp2_with (go_at_call 49; refine (mostFs_any 4 (by omega) n _ l _ 1 (by decide) hf).mono ?_; rintro e w1 ⟨rfl, hb1⟩)
  go_ret
  exact ⟨rfl, hb1⟩

end Go.Proofs.Ytgfcindkfnjeoaa
namespace Go.Proofs.Ytgfcindkfnjeoaa
open Go.RowKit

theorem exec_index {a : Act} {o : Oper} {w : World} (t : TypeId) (x y : Operand) (ho : o.op = .indexAddr t x y) (u v r : Value) (hx : a.eval x = u) (hy : a.eval y = v) (h : (Instr.indexAt t u v).run Try.prog w = .ok r w) : (execOp a.eval o).run Try.prog w = .ok (.value r) w := by
  unfold execOp
  simp [ho, hx, hy, h]
theorem index_values (b off len c I : Nat) (w : World) (h : I < len) : (Instr.indexAt 42 (.slice (some ⟨b, off, none⟩) len c) (.int .i64 (I : Int))).run Try.prog w = .ok (.pointer (some ⟨b, off + I * 3, none⟩)) w := by
  have hs : ∀ w, (sizeOf 68).run Try.prog w = .ok 3 w := fun w => by kernel_rfl
  have hi : (0 : Int) ≤ (I : Int) ∧ (I : Int) < (len : Int) := by omega
  simp [Instr.indexAt, asIntOf, run_underlying Try.underlying42, hs, hi, Addr.add_mid]
  intro h2
  omega
theorem zip_at (E : List Fld → List Val → Option (List UInt8)) (l : List Fld) (v : List Val) (I : Nat) (f : Fld) (x : Val) (hf : l[I]? = some f) (hx : v[I]? = some x) : (List.zipWith (encOne E) l v)[I]? = some (encOne E f x) := by
  rw [List.getElem?_zipWith, hf, hx]

theorem mostSum_part (M : List Fld → Option Nat) (l : List Fld) (S I : Nat) (f : Fld) (h : mostSum M l = some S) (hf : l[I]? = some f) : ∃ a S', mostOne M f = some a ∧ mostSum M (l.take I) = some S' ∧ S' + a ≤ S := by
  have hs : l = l.take I ++ (f :: l.drop (I + 1)) := by
    obtain ⟨h1, h2⟩ := List.getElem?_eq_some_iff.1 hf
    rw [← h2, List.getElem_cons_drop, List.take_append_drop]
  rw [hs, mostSum_append] at h
  cases h1 : mostSum M (l.take I) with
  | none => rw [h1] at h; cases h
  | some S' =>
    rw [h1] at h
    cases h2 : mostOne M f with
    | none => rw [mostSum, h2] at h; cases h
    | some a =>
      refine ⟨a, S', rfl, rfl, ?_⟩
      rw [mostSum, h2] at h
      simp only at h
      cases h3 : mostSum M (l.drop (I + 1)) with
      | none => rw [h3] at h; cases h
      | some z => rw [h3] at h; simp at h; omega

set_option maxRecDepth 100000 in
set_option maxHeartbeats 2000000 in
theorem appRec_any (r : Nat) : appRecSaid r := by
  induction r with
  | zero =>
    intro n lv l m vv v M w0 w base b bs h
    simp [mostL] at h
  | succ r ih =>
    intro n lv l m vv v M w0 w base b bs hM hFl hVl hs0 hB0 hbase hO hsz
    obtain ⟨hSum, hl1, hl16, hMb⟩ := mostL_succ hM
    obtain ⟨ao, c, hlv, hlm, hFc⟩ := hFl.form
    obtain ⟨av, cv, hvv, hvm, hVc⟩ := hVl.form
    unfold maxLen at hlm hvm
    subst hlv
    subst hvv
    have HE : Hid (encL (r + 1) l v = if l.length = v.length then catO (List.zipWith (encOne (encL r)) l v) else none) := rfl
    have HSum : Hid (mostSum (mostL r) l = some M) := hSum
    have HV : Hid (∀ (f : Fld) (o : Value) (x : Val) (bv : Value) (al : Option Addr) (cl a : Nat) (W : World) (u : Value) (us : List UInt8), mostOne (mostL r) f = some a → f.max < 18446744073709551616 → Flds w0 (n - 1) o f.of → x.n < 18446744073709551616 → Seg w0 bv x.b → x.b.length ≤ maxLen → x.l.length ≤ maxLen → (0 < x.l.length → ∃ b off, al = some ⟨b, off, none⟩ ∧ b < w0.heap.size ∧ x.l.length ≤ cl ∧ ∀ k r, x.l[k]? = some r → ∃ rv, w0.cell? ⟨b, off + k, none⟩ = some rv ∧ Vals w0 (m - 1) rv r) → Below base w0 W → base ≤ W.heap.size → Own W base u us → us.length + a ≤ 10000000 →
      Calls Try.prog 50 #[u, fldV f o, valV x bv (.slice al x.l.length cl)] W fun e w' => encPost W base u us (encOne (encL r) f x) e w') := fun f o x bv al cl a W u us h1 h2 h3 h4 h5 h6 h7 h8 h9 h10 h11 h12 => appVal_any r ih f (n - 1) o x (m - 1) bv al cl a w0 W base u us h1 h2 h3 h4 h5 h6 h7 h8 hs0 h9 h10 h11 h12
    clear hSum ih
    by_cases hlen : l.length = v.length
    · have HE' : Hid (encL (r + 1) l v = catO (List.zipWith (encOne (encL r)) l v)) := by show _ = _; rw [HE.out, if_pos hlen]
      have HLV : Hid (l.length = v.length) := hlen
      obtain ⟨bF, offF, hao, hbF, hcF, hF⟩ := hFc (by omega)
      obtain ⟨bV, offV, hav, hbV, hcV, hV⟩ := hVc (by omega)
      subst hao
      subst hav
      obtain ⟨len, hle⟩ : ∃ len, l.length = len := ⟨_, rfl⟩
      have hle2 : v.length = len := by omega
      rw [hle] at hl1 hl16 hlm hcF ⊢
      rw [hle2] at hvm hcV ⊢
      have HLE : Hid (l.length = len ∧ v.length = len) := ⟨hle, hle2⟩
      clear hlen hle hle2
      go_enter Try.func31, Try.ntmps31
      go_wp2
      go_loopw [0, 18] (fun u i wr => ∃ (I : Nat) (q : List UInt8), I ≤ len ∧ i = .int .i64 (I : Int) ∧ catO ((List.zipWith (encOne (encL r)) l v).take I) = some q ∧ (∀ S, mostSum (mostL r) (l.take I) = some S → q.length ≤ S) ∧ Grew w base b wr u (bs ++ q)) (fun _ i _ => len - (intOf i).toNat)
      case atStart => exact ⟨0, [], Nat.zero_le _, rfl, by simp [catO], fun _ _ => Nat.zero_le _, by simpa using Grew.refl hO⟩
      case round =>
        obtain ⟨I, q, hI, rfl, hcat, hql, hG⟩ := hrel
        have HC : Hid (catO ((List.zipWith (encOne (encL r)) l v).take I) = some q) := hcat
        clear hcat
        have s1 := hG.size
        have hBw := hB0.trans (hG.below hO hbase)
        by_cases hlt : I < len
        · obtain ⟨f, hf1⟩ : ∃ f, l[I]? = some f := ⟨l[I]'(by have := HLE.out.1; omega), List.getElem?_eq_getElem (by have := HLE.out.1; omega)⟩
          obtain ⟨x, hx1⟩ : ∃ x, v[I]? = some x := ⟨v[I]'(by have := HLE.out.2; omega), List.getElem?_eq_getElem (by have := HLE.out.2; omega)⟩
          obtain ⟨a, S', hmo, hS', hSa⟩ := mostSum_part _ l M I f HSum.out hf1
          have hqS := hql S' hS'
          have K := Keeps.of_below hBw hs0
          obtain ⟨f0, f1, f2, ⟨o, f3, hof⟩, hmn, hmx⟩ := hF I f hf1
          obtain ⟨x0, ⟨bv, x1, hbv, hbvl⟩, ⟨al, cl, x2, hll, hrecs⟩, hxn⟩ := hV I x hx1
          have c0 := K.cell f0
          have c1 := K.cell f1
          have c2 := K.cell f2
          have c3 := K.cell f3
          have d0 := K.cell x0
          have d1 := K.cell x1
          have d2 := K.cell x2
          have HCV : Hid (∀ W, Grew w base b W u0 (bs ++ q) → Calls Try.prog 50 #[u0, fldV f o, valV x bv (.slice al x.l.length cl)] W fun e w' => encPost W base u0 (bs ++ q) (encOne (encL r) f x) e w') := fun W hW => HV.out f o x bv al cl a W u0 (bs ++ q) hmo hmx hof hxn hbv hbvl hll hrecs (hB0.trans (hW.below hO hbase)) (Nat.le_trans hbase hW.size) hW.own (by rw [List.length_append]; omega)
          have HZ : Hid ((List.zipWith (encOne (encL r)) l v)[I]? = some (encOne (encL r) f x)) := zip_at _ l v I f x hf1 hx1
          unfold fldV valV at HCV
          have HQ : Hid (∀ nb S, encOne (encL r) f x = some nb → mostSum (mostL r) (l.take (I + 1)) = some S → (q ++ nb).length ≤ S) := fun nb S h1 h2 => by
            rw [mostSum_snoc _ l I f S' a hf1 hS' hmo] at h2
            cases h2
            have := encOne_len hmo (fun l m v q h1 h2 => encL_len r l m v q h1 h2) h1
            rw [List.length_append]; omega
          obtain ⟨ao2, cc2, ho2, hol2, _⟩ := hof.form
          subst ho2
          clear f0 f1 f2 f3 x0 x1 x2 hof hbv hrecs hbvl hql hqS
          have i1 : (I : Int) < (len : Int) := by omega
          have HG1 : Hid (∀ ob, Grew w base b (wr.alloc ob).drew u0 (bs ++ q)) := fun ob => hG.after ((Below.refl wr.heap.size wr).alloc (Nat.le_refl _) _).drew (Nat.le_refl _)
          have HIX : Hid (∀ W, (Instr.indexAt 42 (.slice (some ⟨bV, offV, none⟩) len cv) (.int .i64 (I : Int))).run Try.prog W = .ok (.pointer (some ⟨bV, offV + I * 3, none⟩)) W) := fun W => index_values bV offV len cv I W hlt
          have hnew : u0.ownBlock ≠ some wr.heap.size := fun h => by have := (hG.own.blocks _ h).2; omega
          have hold : u0.ownBlock ≠ some bV := fun h => by have := (hG.own.blocks _ h).1; omega
          have RV : Hid (∀ ob, ((wr.alloc ob).drew).rangeAt bV (offV + I * 3) [.int .u64 (x.n : Int), bv, .slice al x.l.length cl]) := fun ob j u hu => by
            have kk : Keeps wr (wr.alloc ob).drew := Keeps.of_below ((Below.refl wr.heap.size wr).alloc (Nat.le_refl _) _).drew (Nat.le_refl _)
            match j, hu with
            | 0, hu => cases hu; exact kk.cell d0
            | 1, hu => cases hu; exact kk.cell d1
            | 2, hu => cases hu; exact kk.cell d2
            | (j + 3), hu => cases hu
          cases hen : encOne (encL r) f x with
          | none =>
            rw [hen] at HCV HZ
            have hres : Hid (encL (r + 1) l v = none) := by show _ = _; rw [HE'.out, catO_none _ I HZ.out]
            go_wp2_with fail
            refine held_begin (fun W => Blk W wr.heap.size 62 #[.int .i64 f.kind, .int .u64 (f.min : Int), .int .u64 (f.max : Int), .slice ao2 f.of.length cc2] ∧ W.rangeAt bV (offV + I * 3) [.int .u64 (x.n : Int), bv, .slice al x.l.length cl]) (by kernel_rfl) ?_
            have hS1 := And.intro (Blk.new wr 62 #[.int .i64 f.kind, .int .u64 (f.min : Int), .int .u64 (f.max : Int), .slice ao2 f.of.length cc2]).drew (RV.out (.cells #[.int .i64 f.kind, .int .u64 (f.min : Int), .int .u64 (f.max : Int), .slice ao2 f.of.length cc2] 62))
            refine held_take 0 24 _ u0 rfl rfl (by kernel_rfl) (by kernel_rfl) (by kernel_rfl) rfl hS1 (fun _ _ => rfl) ?_
            simp only [Act.put, List.setIfInBounds_toArray, List.set_cons_succ, List.set_cons_zero]
            refine held_take 1 25 _ (.agg #[.int .i64 f.kind, .int .u64 (f.min : Int), .int .u64 (f.max : Int), .slice ao2 f.of.length cc2]) rfl rfl (by kernel_rfl) (by kernel_rfl) (by kernel_rfl) rfl hS1 (fun W hW => exec_loads _ _ rfl _ _ rfl [.int .i64 f.kind, .int .u64 (f.min : Int), .int .u64 (f.max : Int), .slice ao2 f.of.length cc2] _ (Blk.range' hW.1) Try.underlying62 rfl (by kernel_rfl)) ?_
            simp only [Act.put, List.setIfInBounds_toArray, List.set_cons_succ, List.set_cons_zero]
            refine held_take 2 26 _ (.slice (some ⟨bV, offV, none⟩) len cv) rfl rfl (by kernel_rfl) (by kernel_rfl) (by kernel_rfl) rfl hS1 (fun _ _ => rfl) ?_
            simp only [Act.put, List.setIfInBounds_toArray, List.set_cons_succ, List.set_cons_zero]
            refine held_take 3 27 _ (.int .i64 (I : Int)) rfl rfl (by kernel_rfl) (by kernel_rfl) (by kernel_rfl) rfl hS1 (fun _ _ => rfl) ?_
            simp only [Act.put, List.setIfInBounds_toArray, List.set_cons_succ, List.set_cons_zero]
            refine held_take 4 28 _ (.pointer (some ⟨bV, offV + I * 3, none⟩)) rfl rfl (by kernel_rfl) (by kernel_rfl) (by kernel_rfl) rfl hS1 (fun W _ => exec_index _ _ _ rfl _ _ _ rfl rfl (HIX.out W)) ?_
            simp only [Act.put, List.setIfInBounds_toArray, List.set_cons_succ, List.set_cons_zero]
            refine held_take 5 29 _ (.agg #[.int .u64 (x.n : Int), bv, .slice al x.l.length cl]) rfl rfl (by kernel_rfl) (by kernel_rfl) (by kernel_rfl) rfl hS1 (fun W hW => exec_loads _ _ rfl _ _ rfl [.int .u64 (x.n : Int), bv, .slice al x.l.length cl] _ hW.2 Try.underlying68 rfl (by kernel_rfl)) ?_
            simp only [Act.put, List.setIfInBounds_toArray, List.set_cons_succ, List.set_cons_zero]
            refine held_call 6 30 _ 50 _ rfl rfl (by kernel_rfl) rfl (exec_three 50 _ _ _ _ rfl _ _ _ rfl rfl rfl Try.call50) ?_
            refine (HCV.out _ (HG1.out _)).mono ?_
            rintro e w5 ⟨rfl, hb5⟩
            have hS5 : Blk w5 wr.heap.size 62 #[.int .i64 f.kind, .int .u64 (f.min : Int), .int .u64 (f.max : Int), .slice ao2 f.of.length cc2] ∧ w5.rangeAt bV (offV + I * 3) [.int .u64 (x.n : Int), bv, .slice al x.l.length cl] := ⟨hS1.1.grown hb5 (fun h => hnew h.symm), fun j u hu => hb5.cell (hS1.2 j u hu) (fun h => hold h.symm)⟩
            refine ⟨_, rfl, hS5, ?_⟩
            simp only [Act.put, List.setIfInBounds_toArray, List.set_cons_succ, List.set_cons_zero]
            refine held_one 7 23 _ (.tuple #[.slice none 0 0, .bool false]) rfl rfl (by kernel_rfl) rfl hS5 rfl ?_
            simp only [Act.put, List.setIfInBounds_toArray, List.set_cons_succ, List.set_cons_zero]
            refine held_take 8 31 _ (.slice none 0 0) rfl rfl (by kernel_rfl) (by kernel_rfl) (by kernel_rfl) rfl hS5 (fun _ _ => rfl) ?_
            simp only [Act.put, List.setIfInBounds_toArray, List.set_cons_succ, List.set_cons_zero]
            refine held_take 9 32 _ (.bool false) rfl rfl (by kernel_rfl) (by kernel_rfl) (by kernel_rfl) rfl hS5 (fun _ _ => rfl) ?_
            simp only [Act.put, List.setIfInBounds_toArray, List.set_cons_succ, List.set_cons_zero]
            refine held_one 10 0 _ (.slice none 0 0) rfl rfl (by kernel_rfl) rfl hS5 rfl ?_
            simp only [Act.put, List.setIfInBounds_toArray, List.set_cons_zero]
            refine held_one 11 10 _ (.bool false) rfl rfl (by kernel_rfl) rfl hS5 rfl ?_
            simp only [Act.put, List.setIfInBounds_toArray, List.set_cons_succ, List.set_cons_zero]
            refine wpAnyH_done (by kernel_rfl) ?_ _
            refine NoPanic.normal ?_
            go_wp2
            go_ret2
            show encPost w base b bs (encL (r + 1) l v) _ w5
            rw [hres.out]
            exact ⟨rfl, (HG1.out _).then hb5⟩
          | some nb =>
            rw [hen] at HCV HZ
            go_wp2_with fail
            refine held_begin (fun W => Blk W wr.heap.size 62 #[.int .i64 f.kind, .int .u64 (f.min : Int), .int .u64 (f.max : Int), .slice ao2 f.of.length cc2] ∧ W.rangeAt bV (offV + I * 3) [.int .u64 (x.n : Int), bv, .slice al x.l.length cl]) (by kernel_rfl) ?_
            have hS1 := And.intro (Blk.new wr 62 #[.int .i64 f.kind, .int .u64 (f.min : Int), .int .u64 (f.max : Int), .slice ao2 f.of.length cc2]).drew (RV.out (.cells #[.int .i64 f.kind, .int .u64 (f.min : Int), .int .u64 (f.max : Int), .slice ao2 f.of.length cc2] 62))
            refine held_take 0 24 _ u0 rfl rfl (by kernel_rfl) (by kernel_rfl) (by kernel_rfl) rfl hS1 (fun _ _ => rfl) ?_
            simp only [Act.put, List.setIfInBounds_toArray, List.set_cons_succ, List.set_cons_zero]
            refine held_take 1 25 _ (.agg #[.int .i64 f.kind, .int .u64 (f.min : Int), .int .u64 (f.max : Int), .slice ao2 f.of.length cc2]) rfl rfl (by kernel_rfl) (by kernel_rfl) (by kernel_rfl) rfl hS1 (fun W hW => exec_loads _ _ rfl _ _ rfl [.int .i64 f.kind, .int .u64 (f.min : Int), .int .u64 (f.max : Int), .slice ao2 f.of.length cc2] _ (Blk.range' hW.1) Try.underlying62 rfl (by kernel_rfl)) ?_
            simp only [Act.put, List.setIfInBounds_toArray, List.set_cons_succ, List.set_cons_zero]
            refine held_take 2 26 _ (.slice (some ⟨bV, offV, none⟩) len cv) rfl rfl (by kernel_rfl) (by kernel_rfl) (by kernel_rfl) rfl hS1 (fun _ _ => rfl) ?_
            simp only [Act.put, List.setIfInBounds_toArray, List.set_cons_succ, List.set_cons_zero]
            refine held_take 3 27 _ (.int .i64 (I : Int)) rfl rfl (by kernel_rfl) (by kernel_rfl) (by kernel_rfl) rfl hS1 (fun _ _ => rfl) ?_
            simp only [Act.put, List.setIfInBounds_toArray, List.set_cons_succ, List.set_cons_zero]
            refine held_take 4 28 _ (.pointer (some ⟨bV, offV + I * 3, none⟩)) rfl rfl (by kernel_rfl) (by kernel_rfl) (by kernel_rfl) rfl hS1 (fun W _ => exec_index _ _ _ rfl _ _ _ rfl rfl (HIX.out W)) ?_
            simp only [Act.put, List.setIfInBounds_toArray, List.set_cons_succ, List.set_cons_zero]
            refine held_take 5 29 _ (.agg #[.int .u64 (x.n : Int), bv, .slice al x.l.length cl]) rfl rfl (by kernel_rfl) (by kernel_rfl) (by kernel_rfl) rfl hS1 (fun W hW => exec_loads _ _ rfl _ _ rfl [.int .u64 (x.n : Int), bv, .slice al x.l.length cl] _ hW.2 Try.underlying68 rfl (by kernel_rfl)) ?_
            simp only [Act.put, List.setIfInBounds_toArray, List.set_cons_succ, List.set_cons_zero]
            refine held_call 6 30 _ 50 _ rfl rfl (by kernel_rfl) rfl (exec_three 50 _ _ _ _ rfl _ _ _ rfl rfl rfl Try.call50) ?_
            refine (HCV.out _ (HG1.out _)).mono ?_
            rintro e w5 ⟨b5, rfl, hG5⟩
            have hS5 : Blk w5 wr.heap.size 62 #[.int .i64 f.kind, .int .u64 (f.min : Int), .int .u64 (f.max : Int), .slice ao2 f.of.length cc2] ∧ w5.rangeAt bV (offV + I * 3) [.int .u64 (x.n : Int), bv, .slice al x.l.length cl] := ⟨hS1.1.grown hG5.grown (fun h => hnew h.symm), fun j u hu => hG5.grown.cell (hS1.2 j u hu) (fun h => hold h.symm)⟩
            refine ⟨_, rfl, hS5, ?_⟩
            simp only [Act.put, List.setIfInBounds_toArray, List.set_cons_succ, List.set_cons_zero]
            refine held_one 7 23 _ (.tuple #[b5, .bool true]) rfl rfl (by kernel_rfl) rfl hS5 rfl ?_
            simp only [Act.put, List.setIfInBounds_toArray, List.set_cons_succ, List.set_cons_zero]
            refine held_take 8 31 _ b5 rfl rfl (by kernel_rfl) (by kernel_rfl) (by kernel_rfl) rfl hS5 (fun _ _ => rfl) ?_
            simp only [Act.put, List.setIfInBounds_toArray, List.set_cons_succ, List.set_cons_zero]
            refine held_take 9 32 _ (.bool true) rfl rfl (by kernel_rfl) (by kernel_rfl) (by kernel_rfl) rfl hS5 (fun _ _ => rfl) ?_
            simp only [Act.put, List.setIfInBounds_toArray, List.set_cons_succ, List.set_cons_zero]
            refine held_one 10 0 _ b5 rfl rfl (by kernel_rfl) rfl hS5 rfl ?_
            simp only [Act.put, List.setIfInBounds_toArray, List.set_cons_zero]
            refine held_one 11 10 _ (.bool true) rfl rfl (by kernel_rfl) rfl hS5 rfl ?_
            simp only [Act.put, List.setIfInBounds_toArray, List.set_cons_succ, List.set_cons_zero]
            refine wpAnyH_done (by kernel_rfl) ?_ _
            refine NoPanic.normal ?_
            go_wp2
            go_roundw
            case rel =>
              refine ⟨I + 1, q ++ nb, hlt, by go_num, catO_snoc _ I q nb HZ.out HC.out, fun S hS => HQ.out nb S hen hS, ?_⟩
              rw [← List.append_assoc]
              exact (HG1.out _).trans hG5
            case measure => simp [intOf]; omega
        · have HQ : Hid (catO (List.zipWith (encOne (encL r)) l v) = some q) := by show _ = _; rw [← HC.out, List.take_of_length_le (by have := HLE.out; simp; omega)]
          have i1 : ¬ (I : Int) < (len : Int) := by omega
          go_wp2
          go_ret2
          show encPost w base b bs (encL (r + 1) l v) _ wr
          rw [HE'.out, HQ.out]
          exact ⟨_, rfl, hG⟩
    · have hres : Hid (encL (r + 1) l v = none) := by show _ = _; rw [HE.out, if_neg hlen]
      have i1 : ((v.length : Int) != (l.length : Int)) = true := by
        rw [bne_iff_ne]; omega
      go_enter Try.func31, Try.ntmps31
      go_wp2
      go_ret2
      show encPost w base b bs (encL (r + 1) l v) _ w
      rw [hres.out]
      exact ⟨rfl, World.grownBy.refl _ _⟩

/-- The bytes of a record of fields that may be. -/
def encTop (l : List Fld) (v : List Val) : Option (List UInt8) := if (mostL 4 l).isSome then encL 4 l v else none
def encodePost (w : World) (r : Option (List UInt8)) (e : Ending) (w' : World) : Prop := (match r with
      | some nb => ∃ b, e = .returned (.tuple #[b, .int .i64 0]) ∧ Own w' w.heap.size b nb
      | none => e = .returned (.tuple #[.slice none 0 0, .int .i64 1])) ∧ Below w.heap.size w w'
theorem own_nil (w : World) (base : Nat) : Own w base (.slice none 0 0) [] := ⟨rfl, .inl ⟨rfl, rfl⟩⟩
set_option maxRecDepth 100000 in
set_option maxHeartbeats 1000000 in
theorem encode_any (n : Nat) (lv : Value) (l : List Fld) (m : Nat) (vv : Value) (v : List Val) (w : World) (hF : Flds w n lv l) (hV : Vals w m vv v) :
    Calls Try.prog 15 #[lv, vv] w fun e w' => encodePost w (encTop l v) e w' := by
  obtain ⟨ao, c, hlv, _, _⟩ := hF.form
  obtain ⟨av, cv, hvv, _, _⟩ := hV.form
  have HR : Hid (Calls Try.prog 30 #[lv] w fun e w' => e = .returned (.bool (mostL 4 l).isSome) ∧ Below w.heap.size w w') := right_any n lv l w hF
  cases hm : mostL 4 l with
  | none =>
    have hres : Hid (encTop l v = none) := by show _ = _; unfold encTop; rw [hm]; rfl
    rw [hm] at HR
    subst hlv
    subst hvv
    go_enter Try.func15, Try.ntmps15
    go_wp2_with (go_at_call 30; refine HR.out.mono ?_; rintro e w1 ⟨rfl, hb1⟩)
    go_ret2
    show encodePost w (encTop l v) _ _
    rw [hres.out]
    exact ⟨rfl, hb1⟩
  | some M =>
    have hres : Hid (encTop l v = encL 4 l v) := by show _ = _; unfold encTop; rw [hm]; rfl
    rw [hm] at HR
    have hMb := mostL_le hm
    have HA : Hid (∀ W, Below w.heap.size w W → Calls Try.prog 31 #[.slice none 0 0, lv, vv] W fun e w' => encPost W w.heap.size (.slice none 0 0) [] (encL 4 l v) e w') := fun W hW => appRec_any 4 n lv l m vv v M w W w.heap.size (.slice none 0 0) [] hm hF hV (Nat.le_refl _) hW hW.size (own_nil _ _) (by simp; omega)
    subst hlv
    subst hvv
    cases hen : encL 4 l v with
    | none =>
      rw [hen] at HA
      go_enter Try.func15, Try.ntmps15
      go_wp2_with (first | (go_at_call 30; refine HR.out.mono ?_; rintro e w1 ⟨rfl, hb1⟩) | (go_at_call 31; refine (HA.out _ (by exact hb1)).mono ?_; rintro e w2 ⟨rfl, hb2⟩))
      go_ret2
      show encodePost w (encTop l v) _ _
      rw [hres.out, hen]
      exact ⟨rfl, hb1.trans (below_grown (Below.refl _ _) hb2 hb1.size (fun k hk => by cases hk))⟩
    | some nb =>
      rw [hen] at HA
      go_enter Try.func15, Try.ntmps15
      go_wp2_with (first | (go_at_call 30; refine HR.out.mono ?_; rintro e w1 ⟨rfl, hb1⟩) | (go_at_call 31; refine (HA.out _ (by exact hb1)).mono ?_; rintro e w2 ⟨b2, rfl, hG2⟩))
      go_ret2
      show encodePost w (encTop l v) _ _
      rw [hres.out, hen]
      exact ⟨⟨_, rfl, by simpa using hG2.own⟩, hb1.trans (hG2.below (own_nil _ _) hb1.size)⟩
end Go.Proofs.Ytgfcindkfnjeoaa
