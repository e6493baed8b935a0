/-
  What is proved here: pack.appendNumber puts a number behind bytes, its lowest byte first, and pack.amount tells what a field's bounds speak of.
  Conditions: those that each fact names.
-/
import Derived.Test.YtjepeonekhhgfaaPackWidth
namespace Go.Proofs.Ytjepeonekhhgfaa
open Go.RowKit

theorem leN_take (n k j : Nat) (h : j < k) : (leN n k).take (j + 1) = (leN n k).take j ++ [UInt8.ofNat (n / 256 ^ j % 256)] := by
  induction k generalizing n j with
  | zero => omega
  | succ k ih =>
    cases j with
    | zero => simp [leN]
    | succ j =>
      simp only [leN, List.take_succ_cons, List.cons_append]
      rw [ih (n / 256) j (by omega), Nat.div_div_eq_div_mul, Nat.pow_succ, Nat.mul_comm 256]
theorem leN_all (n k : Nat) : (leN n k).take k = leN n k := by rw [List.take_of_length_le (by rw [leN_len]; omega)]

/-- Bytes of one's own have grown: the world but for their block is as it was. -/
structure Grew (w : World) (base : Nat) (v : Value) (w' : World) (v' : Value) (bs : List UInt8) : Prop where
  own : Own w' base v' bs
  grown : w.grownBy w' v.ownBlock
  row : v'.ownBlock = v.ownBlock ∨ ∃ q, v'.ownBlock = some q ∧ w.heap.size ≤ q
theorem Grew.refl {w : World} {base : Nat} {v : Value} {bs : List UInt8} (h : Own w base v bs) : Grew w base v w v bs := ⟨h, World.grownBy.refl _ _, .inl rfl⟩
theorem Grew.trans {w w1 w2 : World} {base : Nat} {v v1 v2 : Value} {b1 b2 : List UInt8} (h : Grew w base v w1 v1 b1) (k : Grew w1 base v1 w2 v2 b2) : Grew w base v w2 v2 b2 := by
  refine ⟨k.own, ⟨k.grown.os.trans h.grown.os, k.grown.tape.trans h.grown.tape, k.grown.output.trans h.grown.output, Nat.le_trans h.grown.size k.grown.size, fun i hi hne => ?_⟩, ?_⟩
  · have h1 := h.grown.block i hi hne
    refine (k.grown.block i (Nat.lt_of_lt_of_le hi h.grown.size) ?_).trans h1
    rcases h.row with e | ⟨q, e, hq⟩
    · rw [e]; exact hne
    · rw [e]; intro h2; have := Option.some.inj h2; omega
  · rcases k.row with e | ⟨q, e, hq⟩
    · rw [e]; exact h.row
    · exact .inr ⟨q, e, Nat.le_trans h.grown.size hq⟩
theorem Grew.after {w w1 w2 : World} {base B : Nat} {v v1 : Value} {b1 : List UInt8} (h : Grew w base v w1 v1 b1) (k : Below B w1 w2) (hB : w1.heap.size ≤ B) : Grew w base v w2 v1 b1 :=
  h.trans ⟨h.own.below k hB, ⟨k.os, k.tape, k.output, k.size, fun i hi _ => k.block i (Nat.lt_of_lt_of_le hi hB)⟩, .inl rfl⟩
theorem Grew.below {w w' : World} {base : Nat} {v v' : Value} {bs bs' : List UInt8} (h : Grew w base v w' v' bs') (ho : Own w base v bs) (hb : base ≤ w.heap.size) : Below base w w' :=
  below_grown (Below.refl base w) h.grown hb (fun k hk => (ho.blocks k hk).1)
theorem Grew.blk {w w' : World} {base g : Nat} {t : TypeId} {arr : Array Value} {v v' : Value} {bs' : List UInt8} (h : Grew w base v w' v' bs') (hg : Blk w g t arr) (hne : v.ownBlock ≠ some g) : Blk w' g t arr ∧ v'.ownBlock ≠ some g := by
  refine ⟨hg.grown h.grown (fun e => hne e.symm), ?_⟩
  rcases h.row with e | ⟨q, e, hq⟩
  · rw [e]; exact hne
  · rw [e]; intro h2; have := Option.some.inj h2; have := hg.lt; omega
theorem Grew.size {w w' : World} {base : Nat} {v v' : Value} {bs' : List UInt8} (h : Grew w base v w' v' bs') : w.heap.size ≤ w'.heap.size := h.grown.size
theorem Grew.app {w w' : World} {base : Nat} {v v' : Value} {bs nw : List UInt8} (h1 : Own w' base v' (bs ++ nw)) (h2 : w.grownBy w' v.ownBlock) (h3 : v'.ownBlock = v.ownBlock ∨ v'.ownBlock = some w.heap.size) : Grew w base v w' v' (bs ++ nw) :=
  ⟨h1, h2, h3.imp id (fun e => ⟨_, e, Nat.le_refl _⟩)⟩
theorem byte_form (n j : Nat) : IntKind.u8.wrap ((n / 256 ^ j : Nat) : Int) = n8 (UInt8.ofNat (n / 256 ^ j % 256)) := by
  rw [wrap_u8_nat]
  show _ = ((UInt8.ofNat (n / 256 ^ j % 256)).toNat : Int)
  have : (UInt8.ofNat (n / 256 ^ j % 256)).toNat = n / 256 ^ j % 256 % 256 := by simp
  rw [this, Nat.mod_mod]

set_option maxRecDepth 100000 in
set_option maxHeartbeats 1000000 in
theorem appNum_any (v : Value) (bs : List UInt8) (base n k : Nat) (w : World) (hO : Own w base v bs) (hbase : base ≤ w.heap.size) (hk : k ≤ 8) (hn : n < 18446744073709551616) (hb : bs.length ≤ 100000000) :
    Calls Try.prog 41 #[v, .int .u64 (n : Int), .int .i64 (k : Int)] w fun e w' => ∃ v', e = .returned v' ∧ Grew w base v w' v' (bs ++ leN n k) := by
  have HN : Hid (n < 18446744073709551616) := hn
  clear hn
  go_enter Try.func41, Try.ntmps41
  go_wp2
  go_loopw [0, 1, 8] (fun u x i wr => ∃ j m : Nat, j ≤ k ∧ i = .int .i64 (j : Int) ∧ x = .int .u64 (m : Int) ∧ m = n / 256 ^ j ∧ Grew w base v wr u (bs ++ (leN n k).take j)) (fun _ _ i _ => k - (intOf i).toNat)
  case atStart => exact ⟨0, n, Nat.zero_le _, rfl, rfl, by simp, by simpa using Grew.refl hO⟩
  case round =>
    obtain ⟨j, m, hj, rfl, rfl, hm, hG⟩ := hrel
    have s1 := hG.size
    by_cases hlt : j < k
    · have HT : Hid (bs ++ (leN n k).take (j + 1) = (bs ++ (leN n k).take j) ++ [UInt8.ofNat (n / 256 ^ j % 256)]) := by show _ = _; rw [leN_take n k j hlt, List.append_assoc]
      have hbf := byte_form n j
      rw [← hm] at hbf HT
      have HM : Hid (m / 256 = n / 256 ^ (j + 1)) := by show _ = _; rw [hm, Nat.div_div_eq_div_mul, Nat.pow_succ]
      have hl2 : (bs ++ (leN n k).take j).length ≤ 100000008 := by simp [leN_len]; omega
      clear hm
      obtain ⟨y, hy⟩ : ∃ y, y = UInt8.ofNat (m % 256) := ⟨_, rfl⟩
      rw [← hy] at hbf HT
      clear hy
      generalize bs ++ (leN n k).take j = BJ at *
      have i1 : (j : Int) < (k : Int) := by omega
      go_wp2_with (at_builtin; refine app_own _ rfl (.tmp 10) (.tmp 13) rfl base _ BJ rfl (hG.own.alloc _) _ [y] rfl (by exact Seg.of_row (row_one _ y _) rfl (by simp) (by simp)) (by simp only [List.length_singleton]; omega) (by simp; omega) ?_; intro v2 w2 ho2 hg2 hv2)
      go_roundw
      case rel =>
        refine ⟨j + 1, m / 256, hlt, by go_num, by go_num, HM.out, ?_⟩
        rw [HT.out]
        exact (hG.after ((Below.refl wr.heap.size wr).alloc (Nat.le_refl _) _) (Nat.le_refl _)).trans (Grew.app ho2 hg2 hv2)
      case measure => simp [intOf]; omega
    · have HJ : Hid ((leN n k).take j = leN n k) := by show _ = _; rw [show j = k by omega]; exact leN_all n k
      have i1 : ¬ (j : Int) < (k : Int) := by omega
      go_wp2
      go_ret
      exact ⟨_, rfl, by rw [← HJ.out]; exact hG⟩

theorem ret_pair {a : Nat} {b c : Bool} (h : b = c) : Ending.returned (.tuple #[.int .u64 (a : Int), .bool b]) = .returned (.tuple #[.int .u64 (a : Int), .bool c]) := by rw [h]
/-- A value as a value of the model; bv, lv: those of its bytes and its records. -/
def valV (x : Val) (bv lv : Value) : Value := .agg #[.int .u64 (x.n : Int), bv, lv]
set_option maxRecDepth 100000 in
set_option maxHeartbeats 1000000 in
theorem amount_any (f : Fld) (o : Value) (x : Val) (ab : Option Addr) (cb : Nat) (al : Option Addr) (cl : Nat) (w : World) (hob : ∃ ao n c, o = .slice ao n c) (hb : x.b.length ≤ maxLen) (hl : x.l.length ≤ maxLen) :
    Calls Try.prog 40 #[fldV f o, valV x (.slice ab x.b.length cb) (.slice al x.l.length cl)] w fun e w' => ∃ y : Nat, e = .returned (.tuple #[.int .u64 (y : Int), .bool (amountOf f x).isSome]) ∧ (∀ m, amountOf f x = some m → y = m) ∧ Below w.heap.size w w' := by
  obtain ⟨ao, on, oc, rfl⟩ := hob
  unfold fldV valV
  unfold maxLen at hb hl
  have HA : Hid (amountOf f x = if f.kind = 1 then (if x.b.length = 0 ∧ x.l.length = 0 then some x.n else none)
    else if f.kind = 2 then (if x.n = 0 ∧ x.l.length = 0 then some x.b.length else none)
    else (if x.n = 0 ∧ x.b.length = 0 then some x.l.length else none)) := rfl
  generalize amountOf f x = AM at HA
  generalize x.n = xn at *
  generalize x.b.length = bl at *
  generalize x.l.length = ll at *
  have z1 : ((xn : Int) == 0) = decide (xn = 0) := by by_cases h : xn = 0 <;> simp [h]
  have z2 : ((bl : Int) == 0) = decide (bl = 0) := by by_cases h : bl = 0 <;> simp [h]
  have z3 : ((ll : Int) == 0) = decide (ll = 0) := by by_cases h : ll = 0 <;> simp [h]
  by_cases hk1 : f.kind = 1
  · have j1 : (f.kind == 1) = true := by simpa using hk1
    rw [if_pos hk1] at HA
    clear hk1
    go_enter Try.func40, Try.ntmps40
    go_wp2
    go_region
    go_wp2
    all_goals
      go_ret2
      refine ⟨_, ret_pair ?_, fun m hm => ?_, (((Below.refl w.heap.size w).alloc (Nat.le_refl _) _).alloc (by simp) _).drew⟩
      · rw [HA.out]
        split <;> simp_all
      · rw [HA.out] at hm
        split at hm
        · have := Option.some.inj hm
          omega
        · cases hm
  have j1 : (f.kind == 1) = false := by simpa using hk1
  rw [if_neg hk1] at HA
  by_cases hk2 : f.kind = 2
  · have j2 : (f.kind == 2) = true := by simpa using hk2
    rw [if_pos hk2] at HA
    clear hk1 hk2
    go_enter Try.func40, Try.ntmps40
    go_wp2
    go_region
    go_wp2
    all_goals
      go_ret2
      refine ⟨_, ret_pair ?_, fun m hm => ?_, (((Below.refl w.heap.size w).alloc (Nat.le_refl _) _).alloc (by simp) _).drew⟩
      · rw [HA.out]
        split <;> simp_all
      · rw [HA.out] at hm
        split at hm
        · have := Option.some.inj hm
          omega
        · cases hm
  have j2 : (f.kind == 2) = false := by simpa using hk2
  rw [if_neg hk2] at HA
  clear hk1 hk2
  go_enter Try.func40, Try.ntmps40
  go_wp2
  go_region
  go_wp2
  all_goals
    go_ret2
    refine ⟨_, ret_pair ?_, fun m hm => ?_, (((Below.refl w.heap.size w).alloc (Nat.le_refl _) _).alloc (by simp) _).drew⟩
    · rw [HA.out]
      split <;> simp_all
    · rw [HA.out] at hm
      split at hm
      · have := Option.some.inj hm
        omega
      · cases hm
end Go.Proofs.Ytjepeonekhhgfaa
