/-
  What is proved here: bits.Len64 and pack.width: in how many bytes a number stands; the document's width is the same.
  Conditions: none.
-/
import Derived.Test.YtjepeonekhhgfaaPackWorld
namespace Go.Proofs.Ytjepeonekhhgfaa
open Go.RowKit

/-- What a table of bit lengths of bytes tells. -/
def tabB (s : ByteArray) : Bool := (List.range 256).all fun n => match s.data[n]? with
  | some t => decide (t.toNat ≤ 8) && (decide (n = 0) || decide (1 ≤ t.toNat)) && (decide (n ≠ 0) || decide (t.toNat = 0))
  | none => false
theorem tab_at (s : ByteArray) (h : tabB s = true) (n : Nat) (hn : n < 256) : ∃ t : UInt8, s.data[n]? = some t ∧ t.toNat ≤ 8 ∧ (1 ≤ n → 1 ≤ t.toNat) ∧ (n = 0 → t.toNat = 0) := by
  have := List.all_eq_true.1 h n (by simpa using hn)
  revert this
  cases s.data[n]? with
  | none => intro h; cases h
  | some t =>
    intro h
    simp at h
    exact ⟨t, rfl, h.1.1, fun h1 => by rcases h.1.2 with h2 | h2 <;> omega, fun h1 => by rcases h.2 with h2 | h2 <;> omega⟩
theorem index_tab {w : World} {ops : Array Oper} {rest : List Oper} {o : Oper} {a : Act} {Q : Exit → Act → World → Prop} (hgd : o.guard = none) (ts : TypeId) (x : Operand) (s : ByteArray) (ho : o.op = .index ts (.const (.string s)) x) (ht : Try.prog.underlying ts = some .string) (hs : tabB s = true)
    (z : Int) (hx : a.eval x = .int .u8 z) (h0 : 0 ≤ z) (h1 : z < 256)
    (hK : ∀ t : Nat, t ≤ 8 → (1 ≤ z → 1 ≤ t) → (z = 0 → t = 0) → wpList Try.prog ops Q rest (a.put o.dst (.int .u8 (t : Int))) w) : wpList Try.prog ops Q (o :: rest) a w := by
  obtain ⟨t, h2, h3, h4, h5⟩ := tab_at s hs z.toNat (by omega)
  obtain ⟨hlt, hget⟩ := Array.getElem?_eq_some_iff.1 h2
  have he : a.eval (.const (.string s)) = .string s := rfl
  have hsz : z.toNat < s.size := hlt
  have hrun := run_index_string w ts s .u8 z ht
  rw [dif_pos ⟨h0, by omega⟩] at hrun
  have hv : (s[z.toNat]'(by omega)).toNat = t.toNat := congrArg UInt8.toNat hget
  rw [hv] at hrun
  refine wpList_plain hgd fun _ hK' => ?_
  unfold Oper.wp execOp
  simp only [ho, hx, he, hrun, Sem.run_bind, Result.andThen_ok]
  exact hK' _ _ (hK t.toNat h3 (fun h => h4 (by omega)) (fun h => h5 (by omega)))

set_option maxRecDepth 100000 in
set_option maxHeartbeats 1000000 in
theorem len64_any (n : Nat) (hn : n < 18446744073709551616) (w : World) :
    Calls Try.prog 47 #[.int .u64 (n : Int)] w fun e w' => w' = w ∧ ∃ L : Nat, e = .returned (.int .i64 (L : Int)) ∧ L ≤ 64 ∧ max 1 ((L + 7) / 8) = wid n := by
  by_cases hc0 : 4294967296 ≤ n
  · by_cases hc1 : 65536 ≤ n / 4294967296
    · by_cases hc2 : 256 ≤ n / 4294967296 / 65536
      · have i1 : (4294967296 : Int) ≤ (n : Int) := by omega
        obtain ⟨q1, e1⟩ : ∃ q1, q1 = n / 4294967296 := ⟨_, rfl⟩
        have f1 : (n : Int) / 4294967296 = (q1 : Int) := by omega
        have i2 : (65536 : Int) ≤ (q1 : Int) := by omega
        obtain ⟨q2, e2⟩ : ∃ q2, q2 = q1 / 65536 := ⟨_, rfl⟩
        have f2 : (q1 : Int) / 65536 = (q2 : Int) := by omega
        have i3 : (256 : Int) ≤ (q2 : Int) := by omega
        obtain ⟨q3, e3⟩ : ∃ q3, q3 = q2 / 256 := ⟨_, rfl⟩
        have f3 : (q2 : Int) / 256 = (q3 : Int) := by omega
        have hz : q3 < 256 := by omega
        have hz1 : 1 ≤ q3 := by omega
        have HW : Hid (∀ t : Nat, t ≤ 8 → (1 ≤ (q3 : Int) → 1 ≤ t) → ((q3 : Int) = 0 → t = 0) → max 1 ((56 + t + 7) / 8) = wid n) := fun t h1 h2 h3 => by
          unfold wid
          repeat' split
          all_goals omega
        clear e1
        clear e2
        clear e3
        go_enter Try.func47, Try.ntmps47
        go_wp2_with (refine index_tab rfl 9 _ _ rfl Try.underlying9 ?_ _ rfl ?_ ?_ ?_)
        · decide +kernel
        all_goals try omega
        intro t ht1 ht2 ht3
        have HT := HW.out t ht1 (fun h => ht2 (by omega)) (fun h => ht3 (by omega))
        have HT' : Hid (max 1 ((_ + t + 7) / 8) = wid n) := HT
        clear HT ht2 ht3
        go_wp2
        go_ret
        exact ⟨rfl, 56 + t, by go_num, by omega, HT'.out⟩
      · have i1 : (4294967296 : Int) ≤ (n : Int) := by omega
        obtain ⟨q1, e1⟩ : ∃ q1, q1 = n / 4294967296 := ⟨_, rfl⟩
        have f1 : (n : Int) / 4294967296 = (q1 : Int) := by omega
        have i2 : (65536 : Int) ≤ (q1 : Int) := by omega
        obtain ⟨q2, e2⟩ : ∃ q2, q2 = q1 / 65536 := ⟨_, rfl⟩
        have f2 : (q1 : Int) / 65536 = (q2 : Int) := by omega
        have i3 : ¬ (256 : Int) ≤ (q2 : Int) := by omega
        have hz : q2 < 256 := by omega
        have hz1 : 1 ≤ q2 := by omega
        have HW : Hid (∀ t : Nat, t ≤ 8 → (1 ≤ (q2 : Int) → 1 ≤ t) → ((q2 : Int) = 0 → t = 0) → max 1 ((48 + t + 7) / 8) = wid n) := fun t h1 h2 h3 => by
          unfold wid
          repeat' split
          all_goals omega
        clear e1
        clear e2
        go_enter Try.func47, Try.ntmps47
        go_wp2_with (refine index_tab rfl 9 _ _ rfl Try.underlying9 ?_ _ rfl ?_ ?_ ?_)
        · decide +kernel
        all_goals try omega
        intro t ht1 ht2 ht3
        have HT := HW.out t ht1 (fun h => ht2 (by omega)) (fun h => ht3 (by omega))
        have HT' : Hid (max 1 ((_ + t + 7) / 8) = wid n) := HT
        clear HT ht2 ht3
        go_wp2
        go_ret
        exact ⟨rfl, 48 + t, by go_num, by omega, HT'.out⟩
    · by_cases hc2 : 256 ≤ n / 4294967296
      · have i1 : (4294967296 : Int) ≤ (n : Int) := by omega
        obtain ⟨q1, e1⟩ : ∃ q1, q1 = n / 4294967296 := ⟨_, rfl⟩
        have f1 : (n : Int) / 4294967296 = (q1 : Int) := by omega
        have i2 : ¬ (65536 : Int) ≤ (q1 : Int) := by omega
        have i3 : (256 : Int) ≤ (q1 : Int) := by omega
        obtain ⟨q3, e3⟩ : ∃ q3, q3 = q1 / 256 := ⟨_, rfl⟩
        have f3 : (q1 : Int) / 256 = (q3 : Int) := by omega
        have hz : q3 < 256 := by omega
        have hz1 : 1 ≤ q3 := by omega
        have HW : Hid (∀ t : Nat, t ≤ 8 → (1 ≤ (q3 : Int) → 1 ≤ t) → ((q3 : Int) = 0 → t = 0) → max 1 ((40 + t + 7) / 8) = wid n) := fun t h1 h2 h3 => by
          unfold wid
          repeat' split
          all_goals omega
        clear e1
        clear e3
        go_enter Try.func47, Try.ntmps47
        go_wp2_with (refine index_tab rfl 9 _ _ rfl Try.underlying9 ?_ _ rfl ?_ ?_ ?_)
        · decide +kernel
        all_goals try omega
        intro t ht1 ht2 ht3
        have HT := HW.out t ht1 (fun h => ht2 (by omega)) (fun h => ht3 (by omega))
        have HT' : Hid (max 1 ((_ + t + 7) / 8) = wid n) := HT
        clear HT ht2 ht3
        go_wp2
        go_ret
        exact ⟨rfl, 40 + t, by go_num, by omega, HT'.out⟩
      · have i1 : (4294967296 : Int) ≤ (n : Int) := by omega
        obtain ⟨q1, e1⟩ : ∃ q1, q1 = n / 4294967296 := ⟨_, rfl⟩
        have f1 : (n : Int) / 4294967296 = (q1 : Int) := by omega
        have i2 : ¬ (65536 : Int) ≤ (q1 : Int) := by omega
        have i3 : ¬ (256 : Int) ≤ (q1 : Int) := by omega
        have hz : q1 < 256 := by omega
        have hz1 : 1 ≤ q1 := by omega
        have HW : Hid (∀ t : Nat, t ≤ 8 → (1 ≤ (q1 : Int) → 1 ≤ t) → ((q1 : Int) = 0 → t = 0) → max 1 ((32 + t + 7) / 8) = wid n) := fun t h1 h2 h3 => by
          unfold wid
          repeat' split
          all_goals omega
        clear e1
        go_enter Try.func47, Try.ntmps47
        go_wp2_with (refine index_tab rfl 9 _ _ rfl Try.underlying9 ?_ _ rfl ?_ ?_ ?_)
        · decide +kernel
        all_goals try omega
        intro t ht1 ht2 ht3
        have HT := HW.out t ht1 (fun h => ht2 (by omega)) (fun h => ht3 (by omega))
        have HT' : Hid (max 1 ((_ + t + 7) / 8) = wid n) := HT
        clear HT ht2 ht3
        go_wp2
        go_ret
        exact ⟨rfl, 32 + t, by go_num, by omega, HT'.out⟩
  · by_cases hc1 : 65536 ≤ n
    · by_cases hc2 : 256 ≤ n / 65536
      · have i1 : ¬ (4294967296 : Int) ≤ (n : Int) := by omega
        have i2 : (65536 : Int) ≤ (n : Int) := by omega
        obtain ⟨q2, e2⟩ : ∃ q2, q2 = n / 65536 := ⟨_, rfl⟩
        have f2 : (n : Int) / 65536 = (q2 : Int) := by omega
        have i3 : (256 : Int) ≤ (q2 : Int) := by omega
        obtain ⟨q3, e3⟩ : ∃ q3, q3 = q2 / 256 := ⟨_, rfl⟩
        have f3 : (q2 : Int) / 256 = (q3 : Int) := by omega
        have hz : q3 < 256 := by omega
        have hz1 : 1 ≤ q3 := by omega
        have HW : Hid (∀ t : Nat, t ≤ 8 → (1 ≤ (q3 : Int) → 1 ≤ t) → ((q3 : Int) = 0 → t = 0) → max 1 ((24 + t + 7) / 8) = wid n) := fun t h1 h2 h3 => by
          unfold wid
          repeat' split
          all_goals omega
        clear e2
        clear e3
        go_enter Try.func47, Try.ntmps47
        go_wp2_with (refine index_tab rfl 9 _ _ rfl Try.underlying9 ?_ _ rfl ?_ ?_ ?_)
        · decide +kernel
        all_goals try omega
        intro t ht1 ht2 ht3
        have HT := HW.out t ht1 (fun h => ht2 (by omega)) (fun h => ht3 (by omega))
        have HT' : Hid (max 1 ((_ + t + 7) / 8) = wid n) := HT
        clear HT ht2 ht3
        go_wp2
        go_ret
        exact ⟨rfl, 24 + t, by go_num, by omega, HT'.out⟩
      · have i1 : ¬ (4294967296 : Int) ≤ (n : Int) := by omega
        have i2 : (65536 : Int) ≤ (n : Int) := by omega
        obtain ⟨q2, e2⟩ : ∃ q2, q2 = n / 65536 := ⟨_, rfl⟩
        have f2 : (n : Int) / 65536 = (q2 : Int) := by omega
        have i3 : ¬ (256 : Int) ≤ (q2 : Int) := by omega
        have hz : q2 < 256 := by omega
        have hz1 : 1 ≤ q2 := by omega
        have HW : Hid (∀ t : Nat, t ≤ 8 → (1 ≤ (q2 : Int) → 1 ≤ t) → ((q2 : Int) = 0 → t = 0) → max 1 ((16 + t + 7) / 8) = wid n) := fun t h1 h2 h3 => by
          unfold wid
          repeat' split
          all_goals omega
        clear e2
        go_enter Try.func47, Try.ntmps47
        go_wp2_with (refine index_tab rfl 9 _ _ rfl Try.underlying9 ?_ _ rfl ?_ ?_ ?_)
        · decide +kernel
        all_goals try omega
        intro t ht1 ht2 ht3
        have HT := HW.out t ht1 (fun h => ht2 (by omega)) (fun h => ht3 (by omega))
        have HT' : Hid (max 1 ((_ + t + 7) / 8) = wid n) := HT
        clear HT ht2 ht3
        go_wp2
        go_ret
        exact ⟨rfl, 16 + t, by go_num, by omega, HT'.out⟩
    · by_cases hc2 : 256 ≤ n
      · have i1 : ¬ (4294967296 : Int) ≤ (n : Int) := by omega
        have i2 : ¬ (65536 : Int) ≤ (n : Int) := by omega
        have i3 : (256 : Int) ≤ (n : Int) := by omega
        obtain ⟨q3, e3⟩ : ∃ q3, q3 = n / 256 := ⟨_, rfl⟩
        have f3 : (n : Int) / 256 = (q3 : Int) := by omega
        have hz : q3 < 256 := by omega
        have hz1 : 1 ≤ q3 := by omega
        have HW : Hid (∀ t : Nat, t ≤ 8 → (1 ≤ (q3 : Int) → 1 ≤ t) → ((q3 : Int) = 0 → t = 0) → max 1 ((8 + t + 7) / 8) = wid n) := fun t h1 h2 h3 => by
          unfold wid
          repeat' split
          all_goals omega
        clear e3
        go_enter Try.func47, Try.ntmps47
        go_wp2_with (refine index_tab rfl 9 _ _ rfl Try.underlying9 ?_ _ rfl ?_ ?_ ?_)
        · decide +kernel
        all_goals try omega
        intro t ht1 ht2 ht3
        have HT := HW.out t ht1 (fun h => ht2 (by omega)) (fun h => ht3 (by omega))
        have HT' : Hid (max 1 ((_ + t + 7) / 8) = wid n) := HT
        clear HT ht2 ht3
        go_wp2
        go_ret
        exact ⟨rfl, 8 + t, by go_num, by omega, HT'.out⟩
      · have i1 : ¬ (4294967296 : Int) ≤ (n : Int) := by omega
        have i2 : ¬ (65536 : Int) ≤ (n : Int) := by omega
        have i3 : ¬ (256 : Int) ≤ (n : Int) := by omega
        have hz : n < 256 := by omega
        have HW : Hid (∀ t : Nat, t ≤ 8 → (1 ≤ (n : Int) → 1 ≤ t) → ((n : Int) = 0 → t = 0) → max 1 ((0 + t + 7) / 8) = wid n) := fun t h1 h2 h3 => by
          unfold wid
          repeat' split
          all_goals omega
        go_enter Try.func47, Try.ntmps47
        go_wp2_with (refine index_tab rfl 9 _ _ rfl Try.underlying9 ?_ _ rfl ?_ ?_ ?_)
        · decide +kernel
        all_goals try omega
        intro t ht1 ht2 ht3
        have HT := HW.out t ht1 (fun h => ht2 (by omega)) (fun h => ht3 (by omega))
        have HT' : Hid (max 1 ((_ + t + 7) / 8) = wid n) := HT
        clear HT ht2 ht3
        go_wp2
        go_ret
        exact ⟨rfl, 0 + t, by rw [Nat.zero_add]; rfl, by omega, HT'.out⟩

set_option maxRecDepth 100000 in
theorem refWidth_any (n : Nat) (hn : n < 18446744073709551616) (w : World) :
    Calls Try.prog 31 #[.int .u64 (n : Int)] w fun e w' => e = .returned (.int .i64 (wid n : Int)) ∧ w' = w := by
  go_enter Try.func31, Try.ntmps31
  go_wp2
  go_loop [0, 3] (fun x k => ∃ m j : Nat, x = .int .u64 (m : Int) ∧ k = .int .i64 (j : Int) ∧ m < 18446744073709551616 ∧ j ≤ 9 ∧ j + wid m = wid n + 1) (fun x _ => (intOf x).toNat)
  case atStart => exact ⟨n, 1, rfl, rfl, hn, by omega, by omega⟩
  case round =>
    obtain ⟨m, j, rfl, rfl, hm, hj, he⟩ := hrel
    have h1 := wid_le n
    have h2 := wid_pos m
    have HS : Hid (256 ≤ m → wid m = wid (m / 256) + 1) := fun h => wid_step m h hm
    have HE : Hid (j + wid m = wid n + 1) := he
    have HW : Hid (m < 256 → wid m = 1) := wid_small m
    clear he
    by_cases hlt : m < 256
    · have HJ : Hid (j = wid n) := by show j = wid n; have := HW.out hlt; have := HE.out; omega
      go_wp2
      go_ret
      exact ⟨by rw [← HJ.out]; rfl, rfl⟩
    · go_wp2
      go_round
      case rel => exact ⟨m / 256, j + 1, by go_num, by go_num, by omega, by have := HE.out; have := HS.out (by omega); omega, by have := HE.out; have := HS.out (by omega); omega⟩
      case measure => simp [intOf]; omega

/-- A field as a value; o: that of the fields within. -/
def fldV (f : Fld) (o : Value) : Value := .agg #[.int .i64 f.kind, .int .u64 (f.min : Int), .int .u64 (f.max : Int), o]
set_option maxRecDepth 100000 in
theorem width_any (f : Fld) (o : Value) (hm : f.min ≤ f.max) (hx : f.max < 18446744073709551616) (w : World) :
    Calls Try.prog 39 #[fldV f o] w fun e w' => e = .returned (.int .i64 (wid (f.max - f.min) : Int)) ∧ Below w.heap.size w w' := by
  unfold fldV
  have HL : Hid (∀ W, Calls Try.prog 47 #[.int .u64 ((f.max - f.min : Nat) : Int)] W fun e w' => w' = W ∧ ∃ L : Nat, e = .returned (.int .i64 (L : Int)) ∧ L ≤ 64 ∧ max 1 ((L + 7) / 8) = wid (f.max - f.min)) := fun W => len64_any _ (by omega) W
  have hd : (f.max : Int) - (f.min : Int) = ((f.max - f.min : Nat) : Int) := by omega
  generalize f.kind = fk
  have hx' : f.max - f.min < 18446744073709551616 := by omega
  go_enter Try.func39, Try.ntmps39
  go_wp2_with (go_at_call 47; refine (HL.out _).mono ?_; rintro e w1 ⟨rfl, L, rfl, hL, hW⟩)
  all_goals
    go_ret
    refine ⟨?_, (Below.refl _ _).alloc (Nat.le_refl _) _⟩
    rw [← hW]
    show Ending.returned (Value.int .i64 _) = _
    congr 2
    omega
end Go.Proofs.Ytjepeonekhhgfaa
