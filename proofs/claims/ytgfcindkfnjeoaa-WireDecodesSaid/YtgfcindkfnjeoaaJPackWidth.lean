/-
  What is proved here: bits.Len64 and pack.width: in how many bytes a number stands; the document's width is the same. pack.appendNumber puts a number behind bytes, its lowest byte first, and pack.amount tells what a field's bounds speak of.
  Conditions: none. those that each fact names.
-/
import Derived.Test.YtgfcindkfnjeoaaJPackWorld
namespace Go.Proofs.Ytgfcindkfnjeoaa
open Go.RowKit

/-- What a table of bit lengths of bytes tells. -/
def tabB (s : ByteArray) : Bool := (List.range 256).all fun n => match s.data[n]? with
  | some t => decide (t.toNat ≤ 8) && (decide (n = 0) || decide (1 ≤ t.toNat)) && (decide (n ≠ 0) || decide (t.toNat = 0))
  | none => false
theorem tab_at (s : ByteArray) (h : tabB s = true) (n : Nat) (hn : n < 256) : ∃ t : UInt8, s.data[n]? = some t ∧ t.toNat ≤ 8 ∧ (1 ≤ n → 1 ≤ t.toNat) ∧ (n = 0 → t.toNat = 0) := by
  have := List.all_eq_true.1 h n (by simpa using hn)
  revert this
  cases s.data[n]? with
  | none => intro h; cases h
  | some t =>
    intro h
    simp at h
    exact ⟨t, rfl, h.1.1, fun h1 => by rcases h.1.2 with h2 | h2 <;> omega, fun h1 => by rcases h.2 with h2 | h2 <;> omega⟩
theorem index_tab {w : World} {ops : Array Oper} {rest : List Oper} {o : Oper} {a : Act} {Q : Exit → Act → World → Prop} (hgd : o.guard = none) (ts : TypeId) (x : Operand) (s : ByteArray) (ho : o.op = .index ts (.const (.string s)) x) (ht : Try.prog.underlying ts = some .string) (hs : tabB s = true)
    (z : Int) (hx : a.eval x = .int .u8 z) (h0 : 0 ≤ z) (h1 : z < 256)
    (hK : ∀ t : Nat, t ≤ 8 → (1 ≤ z → 1 ≤ t) → (z = 0 → t = 0) → wpList Try.prog ops Q rest (a.put o.dst (.int .u8 (t : Int))) w) : wpList Try.prog ops Q (o :: rest) a w := by
  obtain ⟨t, h2, h3, h4, h5⟩ := tab_at s hs z.toNat (by omega)
  obtain ⟨hlt, hget⟩ := Array.getElem?_eq_some_iff.1 h2
  have he : a.eval (.const (.string s)) = .string s := rfl
  have hsz : z.toNat < s.size := hlt
  have hrun := run_index_string w ts s .u8 z ht
  rw [dif_pos ⟨h0, by omega⟩] at hrun
  have hv : (s[z.toNat]'(by omega)).toNat = t.toNat := congrArg UInt8.toNat hget
  rw [hv] at hrun
  refine wpList_plain hgd fun _ hK' => ?_
  unfold Oper.wp execOp
  simp only [ho, hx, he, hrun, Sem.run_bind, Result.andThen_ok]
  exact hK' _ _ (hK t.toNat h3 (fun h => h4 (by omega)) (fun h => h5 (by omega)))

set_option maxRecDepth 100000 in
set_option maxHeartbeats 1000000 in
theorem len64_any (n : Nat) (hn : n < 18446744073709551616) (w : World) :
    Calls Try.prog 79 #[.int .u64 (n : Int)] w fun e w' => w' = w ∧ ∃ L : Nat, e = .returned (.int .i64 (L : Int)) ∧ L ≤ 64 ∧ max 1 ((L + 7) / 8) = wid n := by
  by_cases hc0 : 4294967296 ≤ n
  · by_cases hc1 : 65536 ≤ n / 4294967296
    · by_cases hc2 : 256 ≤ n / 4294967296 / 65536
      · have i1 : (4294967296 : Int) ≤ (n : Int) := by omega
        obtain ⟨q1, e1⟩ : ∃ q1, q1 = n / 4294967296 := ⟨_, rfl⟩
        have f1 : (n : Int) / 4294967296 = (q1 : Int) := by omega
        have i2 : (65536 : Int) ≤ (q1 : Int) := by omega
        obtain ⟨q2, e2⟩ : ∃ q2, q2 = q1 / 65536 := ⟨_, rfl⟩
        have f2 : (q1 : Int) / 65536 = (q2 : Int) := by omega
        have i3 : (256 : Int) ≤ (q2 : Int) := by omega
        obtain ⟨q3, e3⟩ : ∃ q3, q3 = q2 / 256 := ⟨_, rfl⟩
        have f3 : (q2 : Int) / 256 = (q3 : Int) := by omega
        have hz : q3 < 256 := by omega
        have hz1 : 1 ≤ q3 := by omega
        have HW : Hid (∀ t : Nat, t ≤ 8 → (1 ≤ (q3 : Int) → 1 ≤ t) → ((q3 : Int) = 0 → t = 0) → max 1 ((56 + t + 7) / 8) = wid n) := fun t h1 h2 h3 => by
          unfold wid
          repeat' split
          all_goals omega
        clear e1
        clear e2
        clear e3
        go_enter Try.func79, Try.ntmps79
        go_wp2_with (refine index_tab rfl 9 _ _ rfl Try.underlying9 ?_ _ rfl ?_ ?_ ?_)
        · decide +kernel
        all_goals try omega
        intro t ht1 ht2 ht3
        have HT := HW.out t ht1 (fun h => ht2 (by omega)) (fun h => ht3 (by omega))
        have HT' : Hid (max 1 ((_ + t + 7) / 8) = wid n) := HT
        clear HT ht2 ht3
        go_wp2
        go_ret
        exact ⟨rfl, 56 + t, by go_num, by omega, HT'.out⟩
      · have i1 : (4294967296 : Int) ≤ (n : Int) := by omega
        obtain ⟨q1, e1⟩ : ∃ q1, q1 = n / 4294967296 := ⟨_, rfl⟩
        have f1 : (n : Int) / 4294967296 = (q1 : Int) := by omega
        have i2 : (65536 : Int) ≤ (q1 : Int) := by omega
        obtain ⟨q2, e2⟩ : ∃ q2, q2 = q1 / 65536 := ⟨_, rfl⟩
        have f2 : (q1 : Int) / 65536 = (q2 : Int) := by omega
        have i3 : ¬ (256 : Int) ≤ (q2 : Int) := by omega
        have hz : q2 < 256 := by omega
        have hz1 : 1 ≤ q2 := by omega
        have HW : Hid (∀ t : Nat, t ≤ 8 → (1 ≤ (q2 : Int) → 1 ≤ t) → ((q2 : Int) = 0 → t = 0) → max 1 ((48 + t + 7) / 8) = wid n) := fun t h1 h2 h3 => by
          unfold wid
          repeat' split
          all_goals omega
        clear e1
        clear e2
        go_enter Try.func79, Try.ntmps79
        go_wp2_with (refine index_tab rfl 9 _ _ rfl Try.underlying9 ?_ _ rfl ?_ ?_ ?_)
        · decide +kernel
        all_goals try omega
        intro t ht1 ht2 ht3
        have HT := HW.out t ht1 (fun h => ht2 (by omega)) (fun h => ht3 (by omega))
        have HT' : Hid (max 1 ((_ + t + 7) / 8) = wid n) := HT
        clear HT ht2 ht3
        go_wp2
        go_ret
        exact ⟨rfl, 48 + t, by go_num, by omega, HT'.out⟩
    · by_cases hc2 : 256 ≤ n / 4294967296
      · have i1 : (4294967296 : Int) ≤ (n : Int) := by omega
        obtain ⟨q1, e1⟩ : ∃ q1, q1 = n / 4294967296 := ⟨_, rfl⟩
        have f1 : (n : Int) / 4294967296 = (q1 : Int) := by omega
        have i2 : ¬ (65536 : Int) ≤ (q1 : Int) := by omega
        have i3 : (256 : Int) ≤ (q1 : Int) := by omega
        obtain ⟨q3, e3⟩ : ∃ q3, q3 = q1 / 256 := ⟨_, rfl⟩
        have f3 : (q1 : Int) / 256 = (q3 : Int) := by omega
        have hz : q3 < 256 := by omega
        have hz1 : 1 ≤ q3 := by omega
        have HW : Hid (∀ t : Nat, t ≤ 8 → (1 ≤ (q3 : Int) → 1 ≤ t) → ((q3 : Int) = 0 → t = 0) → max 1 ((40 + t + 7) / 8) = wid n) := fun t h1 h2 h3 => by
          unfold wid
          repeat' split
          all_goals omega
        clear e1
        clear e3
        go_enter Try.func79, Try.ntmps79
        go_wp2_with (refine index_tab rfl 9 _ _ rfl Try.underlying9 ?_ _ rfl ?_ ?_ ?_)
        · decide +kernel
        all_goals try omega
        intro t ht1 ht2 ht3
        have HT := HW.out t ht1 (fun h => ht2 (by omega)) (fun h => ht3 (by omega))
        have HT' : Hid (max 1 ((_ + t + 7) / 8) = wid n) := HT
        clear HT ht2 ht3
        go_wp2
        go_ret
        exact ⟨rfl, 40 + t, by go_num, by omega, HT'.out⟩
      · have i1 : (4294967296 : Int) ≤ (n : Int) := by omega
        obtain ⟨q1, e1⟩ : ∃ q1, q1 = n / 4294967296 := ⟨_, rfl⟩
        have f1 : (n : Int) / 4294967296 = (q1 : Int) := by omega
        have i2 : ¬ (65536 : Int) ≤ (q1 : Int) := by omega
        have i3 : ¬ (256 : Int) ≤ (q1 : Int) := by omega
        have hz : q1 < 256 := by omega
        have hz1 : 1 ≤ q1 := by omega
        have HW : Hid (∀ t : Nat, t ≤ 8 → (1 ≤ (q1 : Int) → 1 ≤ t) → ((q1 : Int) = 0 → t = 0) → max 1 ((32 + t + 7) / 8) = wid n) := fun t h1 h2 h3 => by
          unfold wid
          repeat' split
          all_goals omega
        clear e1
        go_enter Try.func79, Try.ntmps79
        go_wp2_with (refine index_tab rfl 9 _ _ rfl Try.underlying9 ?_ _ rfl ?_ ?_ ?_)
        · decide +kernel
        all_goals try omega
        intro t ht1 ht2 ht3
        have HT := HW.out t ht1 (fun h => ht2 (by omega)) (fun h => ht3 (by omega))
        have HT' : Hid (max 1 ((_ + t + 7) / 8) = wid n) := HT
        clear HT ht2 ht3
        go_wp2
        go_ret
        exact ⟨rfl, 32 + t, by go_num, by omega, HT'.out⟩
  · by_cases hc1 : 65536 ≤ n
    · by_cases hc2 : 256 ≤ n / 65536
      · have i1 : ¬ (4294967296 : Int) ≤ (n : Int) := by omega
        have i2 : (65536 : Int) ≤ (n : Int) := by omega
        obtain ⟨q2, e2⟩ : ∃ q2, q2 = n / 65536 := ⟨_, rfl⟩
        have f2 : (n : Int) / 65536 = (q2 : Int) := by omega
        have i3 : (256 : Int) ≤ (q2 : Int) := by omega
        obtain ⟨q3, e3⟩ : ∃ q3, q3 = q2 / 256 := ⟨_, rfl⟩
        have f3 : (q2 : Int) / 256 = (q3 : Int) := by omega
        have hz : q3 < 256 := by omega
        have hz1 : 1 ≤ q3 := by omega
        have HW : Hid (∀ t : Nat, t ≤ 8 → (1 ≤ (q3 : Int) → 1 ≤ t) → ((q3 : Int) = 0 → t = 0) → max 1 ((24 + t + 7) / 8) = wid n) := fun t h1 h2 h3 => by
          unfold wid
          repeat' split
          all_goals omega
        clear e2
        clear e3
        go_enter Try.func79, Try.ntmps79
        go_wp2_with (refine index_tab rfl 9 _ _ rfl Try.underlying9 ?_ _ rfl ?_ ?_ ?_)
        · decide +kernel
        all_goals try omega
        intro t ht1 ht2 ht3
        have HT := HW.out t ht1 (fun h => ht2 (by omega)) (fun h => ht3 (by omega))
        have HT' : Hid (max 1 ((_ + t + 7) / 8) = wid n) := HT
        clear HT ht2 ht3
        go_wp2
        go_ret
        exact ⟨rfl, 24 + t, by go_num, by omega, HT'.out⟩
      · have i1 : ¬ (4294967296 : Int) ≤ (n : Int) := by omega
        have i2 : (65536 : Int) ≤ (n : Int) := by omega
        obtain ⟨q2, e2⟩ : ∃ q2, q2 = n / 65536 := ⟨_, rfl⟩
        have f2 : (n : Int) / 65536 = (q2 : Int) := by omega
        have i3 : ¬ (256 : Int) ≤ (q2 : Int) := by omega
        have hz : q2 < 256 := by omega
        have hz1 : 1 ≤ q2 := by omega
        have HW : Hid (∀ t : Nat, t ≤ 8 → (1 ≤ (q2 : Int) → 1 ≤ t) → ((q2 : Int) = 0 → t = 0) → max 1 ((16 + t + 7) / 8) = wid n) := fun t h1 h2 h3 => by
          unfold wid
          repeat' split
          all_goals omega
        clear e2
        go_enter Try.func79, Try.ntmps79
        go_wp2_with (refine index_tab rfl 9 _ _ rfl Try.underlying9 ?_ _ rfl ?_ ?_ ?_)
        · decide +kernel
        all_goals try omega
        intro t ht1 ht2 ht3
        have HT := HW.out t ht1 (fun h => ht2 (by omega)) (fun h => ht3 (by omega))
        have HT' : Hid (max 1 ((_ + t + 7) / 8) = wid n) := HT
        clear HT ht2 ht3
        go_wp2
        go_ret
        exact ⟨rfl, 16 + t, by go_num, by omega, HT'.out⟩
    · by_cases hc2 : 256 ≤ n
      · have i1 : ¬ (4294967296 : Int) ≤ (n : Int) := by omega
        have i2 : ¬ (65536 : Int) ≤ (n : Int) := by omega
        have i3 : (256 : Int) ≤ (n : Int) := by omega
        obtain ⟨q3, e3⟩ : ∃ q3, q3 = n / 256 := ⟨_, rfl⟩
        have f3 : (n : Int) / 256 = (q3 : Int) := by omega
        have hz : q3 < 256 := by omega
        have hz1 : 1 ≤ q3 := by omega
        have HW : Hid (∀ t : Nat, t ≤ 8 → (1 ≤ (q3 : Int) → 1 ≤ t) → ((q3 : Int) = 0 → t = 0) → max 1 ((8 + t + 7) / 8) = wid n) := fun t h1 h2 h3 => by
          unfold wid
          repeat' split
          all_goals omega
        clear e3
        go_enter Try.func79, Try.ntmps79
        go_wp2_with (refine index_tab rfl 9 _ _ rfl Try.underlying9 ?_ _ rfl ?_ ?_ ?_)
        · decide +kernel
        all_goals try omega
        intro t ht1 ht2 ht3
        have HT := HW.out t ht1 (fun h => ht2 (by omega)) (fun h => ht3 (by omega))
        have HT' : Hid (max 1 ((_ + t + 7) / 8) = wid n) := HT
        clear HT ht2 ht3
        go_wp2
        go_ret
        exact ⟨rfl, 8 + t, by go_num, by omega, HT'.out⟩
      · have i1 : ¬ (4294967296 : Int) ≤ (n : Int) := by omega
        have i2 : ¬ (65536 : Int) ≤ (n : Int) := by omega
        have i3 : ¬ (256 : Int) ≤ (n : Int) := by omega
        have hz : n < 256 := by omega
        have HW : Hid (∀ t : Nat, t ≤ 8 → (1 ≤ (n : Int) → 1 ≤ t) → ((n : Int) = 0 → t = 0) → max 1 ((0 + t + 7) / 8) = wid n) := fun t h1 h2 h3 => by
          unfold wid
          repeat' split
          all_goals omega
        go_enter Try.func79, Try.ntmps79
        go_wp2_with (refine index_tab rfl 9 _ _ rfl Try.underlying9 ?_ _ rfl ?_ ?_ ?_)
        · decide +kernel
        all_goals try omega
        intro t ht1 ht2 ht3
        have HT := HW.out t ht1 (fun h => ht2 (by omega)) (fun h => ht3 (by omega))
        have HT' : Hid (max 1 ((_ + t + 7) / 8) = wid n) := HT
        clear HT ht2 ht3
        go_wp2
        go_ret
        exact ⟨rfl, 0 + t, by rw [Nat.zero_add]; rfl, by omega, HT'.out⟩

set_option maxRecDepth 100000 in
theorem refWidth_any (n : Nat) (hn : n < 18446744073709551616) (w : World) :
    Calls Try.prog 54 #[.int .u64 (n : Int)] w fun e w' => e = .returned (.int .i64 (wid n : Int)) ∧ w' = w := by
  go_enter Try.func54, Try.ntmps54
  go_wp2
  go_loop [0, 3] (fun x k => ∃ m j : Nat, x = .int .u64 (m : Int) ∧ k = .int .i64 (j : Int) ∧ m < 18446744073709551616 ∧ j ≤ 9 ∧ j + wid m = wid n + 1) (fun x _ => (intOf x).toNat)
  case atStart => exact ⟨n, 1, rfl, rfl, hn, by omega, by omega⟩
  case round =>
    obtain ⟨m, j, rfl, rfl, hm, hj, he⟩ := hrel
    have h1 := wid_le n
    have h2 := wid_pos m
    have HS : Hid (256 ≤ m → wid m = wid (m / 256) + 1) := fun h => wid_step m h hm
    have HE : Hid (j + wid m = wid n + 1) := he
    have HW : Hid (m < 256 → wid m = 1) := wid_small m
    clear he
    by_cases hlt : m < 256
    · have HJ : Hid (j = wid n) := by show j = wid n; have := HW.out hlt; have := HE.out; omega
      go_wp2
      go_ret
      exact ⟨by rw [← HJ.out]; rfl, rfl⟩
    · go_wp2
      go_round
      case rel => exact ⟨m / 256, j + 1, by go_num, by go_num, by omega, by have := HE.out; have := HS.out (by omega); omega, by have := HE.out; have := HS.out (by omega); omega⟩
      case measure => simp [intOf]; omega

/-- A field as a value; o: that of the fields within. -/
def fldV (f : Fld) (o : Value) : Value := .agg #[.int .i64 f.kind, .int .u64 (f.min : Int), .int .u64 (f.max : Int), o]
set_option maxRecDepth 100000 in
theorem width_any (f : Fld) (o : Value) (hm : f.min ≤ f.max) (hx : f.max < 18446744073709551616) (w : World) :
    Calls Try.prog 70 #[fldV f o] w fun e w' => e = .returned (.int .i64 (wid (f.max - f.min) : Int)) ∧ Below w.heap.size w w' := by
  unfold fldV
  have HL : Hid (∀ W, Calls Try.prog 79 #[.int .u64 ((f.max - f.min : Nat) : Int)] W fun e w' => w' = W ∧ ∃ L : Nat, e = .returned (.int .i64 (L : Int)) ∧ L ≤ 64 ∧ max 1 ((L + 7) / 8) = wid (f.max - f.min)) := fun W => len64_any _ (by omega) W
  have hd : (f.max : Int) - (f.min : Int) = ((f.max - f.min : Nat) : Int) := by omega
  generalize f.kind = fk
  have hx' : f.max - f.min < 18446744073709551616 := by omega
  go_enter Try.func70, Try.ntmps70
  go_wp2_with (go_at_call 79; refine (HL.out _).mono ?_; rintro e w1 ⟨rfl, L, rfl, hL, hW⟩)
  all_goals
    go_ret
    refine ⟨?_, (Below.refl _ _).alloc (Nat.le_refl _) _⟩
    rw [← hW]
    show Ending.returned (Value.int .i64 _) = _
    congr 2
    omega
end Go.Proofs.Ytgfcindkfnjeoaa
namespace Go.Proofs.Ytgfcindkfnjeoaa
open Go.RowKit

theorem leN_take (n k j : Nat) (h : j < k) : (leN n k).take (j + 1) = (leN n k).take j ++ [UInt8.ofNat (n / 256 ^ j % 256)] := by
  induction k generalizing n j with
  | zero => omega
  | succ k ih =>
    cases j with
    | zero => simp [leN]
    | succ j =>
      simp only [leN, List.take_succ_cons, List.cons_append]
      rw [ih (n / 256) j (by omega), Nat.div_div_eq_div_mul, Nat.pow_succ, Nat.mul_comm 256]
theorem leN_all (n k : Nat) : (leN n k).take k = leN n k := by rw [List.take_of_length_le (by rw [leN_len]; omega)]

/-- Bytes of one's own have grown: the world but for their block is as it was. -/
structure Grew (w : World) (base : Nat) (v : Value) (w' : World) (v' : Value) (bs : List UInt8) : Prop where
  own : Own w' base v' bs
  grown : w.grownBy w' v.ownBlock
  row : v'.ownBlock = v.ownBlock ∨ ∃ q, v'.ownBlock = some q ∧ w.heap.size ≤ q
theorem Grew.refl {w : World} {base : Nat} {v : Value} {bs : List UInt8} (h : Own w base v bs) : Grew w base v w v bs := ⟨h, World.grownBy.refl _ _, .inl rfl⟩
theorem Grew.trans {w w1 w2 : World} {base : Nat} {v v1 v2 : Value} {b1 b2 : List UInt8} (h : Grew w base v w1 v1 b1) (k : Grew w1 base v1 w2 v2 b2) : Grew w base v w2 v2 b2 := by
  refine ⟨k.own, ⟨k.grown.os.trans h.grown.os, k.grown.tape.trans h.grown.tape, k.grown.output.trans h.grown.output, Nat.le_trans h.grown.size k.grown.size, fun i hi hne => ?_⟩, ?_⟩
  · have h1 := h.grown.block i hi hne
    refine (k.grown.block i (Nat.lt_of_lt_of_le hi h.grown.size) ?_).trans h1
    rcases h.row with e | ⟨q, e, hq⟩
    · rw [e]; exact hne
    · rw [e]; intro h2; have := Option.some.inj h2; omega
  · rcases k.row with e | ⟨q, e, hq⟩
    · rw [e]; exact h.row
    · exact .inr ⟨q, e, Nat.le_trans h.grown.size hq⟩
theorem Grew.after {w w1 w2 : World} {base B : Nat} {v v1 : Value} {b1 : List UInt8} (h : Grew w base v w1 v1 b1) (k : Below B w1 w2) (hB : w1.heap.size ≤ B) : Grew w base v w2 v1 b1 :=
  h.trans ⟨h.own.below k hB, ⟨k.os, k.tape, k.output, k.size, fun i hi _ => k.block i (Nat.lt_of_lt_of_le hi hB)⟩, .inl rfl⟩
theorem Grew.below {w w' : World} {base : Nat} {v v' : Value} {bs bs' : List UInt8} (h : Grew w base v w' v' bs') (ho : Own w base v bs) (hb : base ≤ w.heap.size) : Below base w w' :=
  below_grown (Below.refl base w) h.grown hb (fun k hk => (ho.blocks k hk).1)
theorem Grew.blk {w w' : World} {base g : Nat} {t : TypeId} {arr : Array Value} {v v' : Value} {bs' : List UInt8} (h : Grew w base v w' v' bs') (hg : Blk w g t arr) (hne : v.ownBlock ≠ some g) : Blk w' g t arr ∧ v'.ownBlock ≠ some g := by
  refine ⟨hg.grown h.grown (fun e => hne e.symm), ?_⟩
  rcases h.row with e | ⟨q, e, hq⟩
  · rw [e]; exact hne
  · rw [e]; intro h2; have := Option.some.inj h2; have := hg.lt; omega
theorem Grew.size {w w' : World} {base : Nat} {v v' : Value} {bs' : List UInt8} (h : Grew w base v w' v' bs') : w.heap.size ≤ w'.heap.size := h.grown.size
theorem Grew.app {w w' : World} {base : Nat} {v v' : Value} {bs nw : List UInt8} (h1 : Own w' base v' (bs ++ nw)) (h2 : w.grownBy w' v.ownBlock) (h3 : v'.ownBlock = v.ownBlock ∨ v'.ownBlock = some w.heap.size) : Grew w base v w' v' (bs ++ nw) :=
  ⟨h1, h2, h3.imp id (fun e => ⟨_, e, Nat.le_refl _⟩)⟩
theorem byte_form (n j : Nat) : IntKind.u8.wrap ((n / 256 ^ j : Nat) : Int) = n8 (UInt8.ofNat (n / 256 ^ j % 256)) := by
  rw [wrap_u8_nat]
  show _ = ((UInt8.ofNat (n / 256 ^ j % 256)).toNat : Int)
  have : (UInt8.ofNat (n / 256 ^ j % 256)).toNat = n / 256 ^ j % 256 % 256 := by simp
  rw [this, Nat.mod_mod]

set_option maxRecDepth 100000 in
set_option maxHeartbeats 1000000 in
theorem appNum_any (v : Value) (bs : List UInt8) (base n k : Nat) (w : World) (hO : Own w base v bs) (hbase : base ≤ w.heap.size) (hk : k ≤ 8) (hn : n < 18446744073709551616) (hb : bs.length ≤ 100000000) :
    Calls Try.prog 69 #[v, .int .u64 (n : Int), .int .i64 (k : Int)] w fun e w' => ∃ v', e = .returned v' ∧ Grew w base v w' v' (bs ++ leN n k) := by
  have HN : Hid (n < 18446744073709551616) := hn
  clear hn
  go_enter Try.func69, Try.ntmps69
  go_wp2
  go_loopw [0, 1, 8] (fun u x i wr => ∃ j m : Nat, j ≤ k ∧ i = .int .i64 (j : Int) ∧ x = .int .u64 (m : Int) ∧ m = n / 256 ^ j ∧ Grew w base v wr u (bs ++ (leN n k).take j)) (fun _ _ i _ => k - (intOf i).toNat)
  case atStart => exact ⟨0, n, Nat.zero_le _, rfl, rfl, by simp, by simpa using Grew.refl hO⟩
  case round =>
    obtain ⟨j, m, hj, rfl, rfl, hm, hG⟩ := hrel
    have s1 := hG.size
    by_cases hlt : j < k
    · have HT : Hid (bs ++ (leN n k).take (j + 1) = (bs ++ (leN n k).take j) ++ [UInt8.ofNat (n / 256 ^ j % 256)]) := by show _ = _; rw [leN_take n k j hlt, List.append_assoc]
      have hbf := byte_form n j
      rw [← hm] at hbf HT
      have HM : Hid (m / 256 = n / 256 ^ (j + 1)) := by show _ = _; rw [hm, Nat.div_div_eq_div_mul, Nat.pow_succ]
      have hl2 : (bs ++ (leN n k).take j).length ≤ 100000008 := by simp [leN_len]; omega
      clear hm
      obtain ⟨y, hy⟩ : ∃ y, y = UInt8.ofNat (m % 256) := ⟨_, rfl⟩
      rw [← hy] at hbf HT
      clear hy
      generalize bs ++ (leN n k).take j = BJ at *
      have i1 : (j : Int) < (k : Int) := by omega
      go_wp2_with (at_builtin; refine app_own _ rfl (.tmp 10) (.tmp 13) rfl base _ BJ rfl (hG.own.alloc _) _ [y] rfl (by exact Seg.of_row (row_one _ y _) rfl (by simp) (by simp)) (by simp only [List.length_singleton]; omega) (by simp; omega) ?_; intro v2 w2 ho2 hg2 hv2)
      go_roundw
      case rel =>
        refine ⟨j + 1, m / 256, hlt, by go_num, by go_num, HM.out, ?_⟩
        rw [HT.out]
        exact (hG.after ((Below.refl wr.heap.size wr).alloc (Nat.le_refl _) _) (Nat.le_refl _)).trans (Grew.app ho2 hg2 hv2)
      case measure => simp [intOf]; omega
    · have HJ : Hid ((leN n k).take j = leN n k) := by show _ = _; rw [show j = k by omega]; exact leN_all n k
      have i1 : ¬ (j : Int) < (k : Int) := by omega
      go_wp2
      go_ret
      exact ⟨_, rfl, by rw [← HJ.out]; exact hG⟩

theorem ret_pair {a : Nat} {b c : Bool} (h : b = c) : Ending.returned (.tuple #[.int .u64 (a : Int), .bool b]) = .returned (.tuple #[.int .u64 (a : Int), .bool c]) := by rw [h]
/-- A value as a value of the model; bv, lv: those of its bytes and its records. -/
def valV (x : Val) (bv lv : Value) : Value := .agg #[.int .u64 (x.n : Int), bv, lv]
set_option maxRecDepth 100000 in
set_option maxHeartbeats 1000000 in
theorem amount_any (f : Fld) (o : Value) (x : Val) (ab : Option Addr) (cb : Nat) (al : Option Addr) (cl : Nat) (w : World) (hob : ∃ ao n c, o = .slice ao n c) (hb : x.b.length ≤ maxLen) (hl : x.l.length ≤ maxLen) :
    Calls Try.prog 68 #[fldV f o, valV x (.slice ab x.b.length cb) (.slice al x.l.length cl)] w fun e w' => ∃ y : Nat, e = .returned (.tuple #[.int .u64 (y : Int), .bool (amountOf f x).isSome]) ∧ (∀ m, amountOf f x = some m → y = m) ∧ Below w.heap.size w w' := by
  obtain ⟨ao, on, oc, rfl⟩ := hob
  unfold fldV valV
  unfold maxLen at hb hl
  have HA : Hid (amountOf f x = if f.kind = 1 then (if x.b.length = 0 ∧ x.l.length = 0 then some x.n else none)
    else if f.kind = 2 then (if x.n = 0 ∧ x.l.length = 0 then some x.b.length else none)
    else (if x.n = 0 ∧ x.b.length = 0 then some x.l.length else none)) := rfl
  generalize amountOf f x = AM at HA
  generalize x.n = xn at *
  generalize x.b.length = bl at *
  generalize x.l.length = ll at *
  have z1 : ((xn : Int) == 0) = decide (xn = 0) := by by_cases h : xn = 0 <;> simp [h]
  have z2 : ((bl : Int) == 0) = decide (bl = 0) := by by_cases h : bl = 0 <;> simp [h]
  have z3 : ((ll : Int) == 0) = decide (ll = 0) := by by_cases h : ll = 0 <;> simp [h]
  by_cases hk1 : f.kind = 1
  · have j1 : (f.kind == 1) = true := by simpa using hk1
    rw [if_pos hk1] at HA
    clear hk1
    go_enter Try.func68, Try.ntmps68
    go_wp2
    go_region
    go_wp2
    all_goals
      go_ret2
      refine ⟨_, ret_pair ?_, fun m hm => ?_, (((Below.refl w.heap.size w).alloc (Nat.le_refl _) _).alloc (by simp) _).drew⟩
      · rw [HA.out]
        split <;> simp_all
      · rw [HA.out] at hm
        split at hm
        · have := Option.some.inj hm
          omega
        · cases hm
  have j1 : (f.kind == 1) = false := by simpa using hk1
  rw [if_neg hk1] at HA
  by_cases hk2 : f.kind = 2
  · have j2 : (f.kind == 2) = true := by simpa using hk2
    rw [if_pos hk2] at HA
    clear hk1 hk2
    go_enter Try.func68, Try.ntmps68
    go_wp2
    go_region
    go_wp2
    all_goals
      go_ret2
      refine ⟨_, ret_pair ?_, fun m hm => ?_, (((Below.refl w.heap.size w).alloc (Nat.le_refl _) _).alloc (by simp) _).drew⟩
      · rw [HA.out]
        split <;> simp_all
      · rw [HA.out] at hm
        split at hm
        · have := Option.some.inj hm
          omega
        · cases hm
  have j2 : (f.kind == 2) = false := by simpa using hk2
  rw [if_neg hk2] at HA
  clear hk1 hk2
  go_enter Try.func68, Try.ntmps68
  go_wp2
  go_region
  go_wp2
  all_goals
    go_ret2
    refine ⟨_, ret_pair ?_, fun m hm => ?_, (((Below.refl w.heap.size w).alloc (Nat.le_refl _) _).alloc (by simp) _).drew⟩
    · rw [HA.out]
      split <;> simp_all
    · rw [HA.out] at hm
      split at hm
      · have := Option.some.inj hm
        omega
      · cases hm
end Go.Proofs.Ytgfcindkfnjeoaa
