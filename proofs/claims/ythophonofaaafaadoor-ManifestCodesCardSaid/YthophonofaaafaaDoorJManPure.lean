/-
  What is proved here: a manifest as plain data, and as cells; whether one may be; slices of words in memory. manifest.chunks, span and numbersMay answer as the plain functions do. manifest.Right, Count and Span answer as the plain functions do.
  Conditions: those that each fact names.
-/
import Derived.Test.YthophonofaaafaaDoorJShaPure
import Derived.Test.YthophonofaaafaaDoorJCrcPure
import Derived.Test.YthophonofaaafaaDoorJAnyHeld
import Derived.Lib.MinMax
namespace Go.Proofs.YthophonofaaafaaDoor
open Go.RowKit

structure MM where
  v : Int
  s : Int
  c : Int
  h : List UInt8
  u : List (BitVec 32)
/-- A manifest's cells; su: the slice of its sums. -/
def manL (m : MM) (su : Value) : List Value := .int .i64 m.v :: .int .i64 m.s :: .int .i64 m.c :: (m.h.map v8 ++ [su])
def manC (m : MM) (su : Value) : Array Value := (manL m su).toArray
abbrev manV (m : MM) (su : Value) : Value := .agg (manC m su)
theorem manC_size (m : MM) (su : Value) (h : m.h.length = 32) : (manC m su).size = 36 := by simp [manC, manL, h]
theorem manC_info (m : MM) (su : Value) (h : m.h.length = 32) : (Tryd.prog.info? 27).map (·.size) = some (manC m su).size := by rw [manC_size m su h]; kernel_rfl
theorem manC_0 (m : MM) (su : Value) : (manC m su)[0]? = some (.int .i64 m.v) := rfl
theorem manC_1 (m : MM) (su : Value) : (manC m su)[1]? = some (.int .i64 m.s) := rfl
theorem manC_2 (m : MM) (su : Value) : (manC m su)[2]? = some (.int .i64 m.c) := rfl
theorem manC_35 (m : MM) (su : Value) (h : m.h.length = 32) : (manC m su)[35]? = some su := by
  simp [manC, manL, h]
theorem manC_hash (m : MM) (su : Value) (j : Nat) (hj : j < m.h.length) : (manC m su)[3 + j]? = some (v8 m.h[j]) := by
  simp [manC, manL, Nat.add_comm 3 j, List.getElem?_append_left, hj]
theorem manC_one (m : MM) (su : Value) (hs : su.oneCell' = true) : (manC m su).all (·.oneCell') = true := by
  have hi : ∀ (k : IntKind) (z : Int), (Value.int k z).oneCell' = true := fun _ _ => rfl
  simp [manC, manL, hs, hi]

/-- How many chunks. -/
def countM (m : MM) : Int := (m.s + m.c - 1) / m.c
def numsOk (m : MM) : Prop := (1 ≤ m.v ∧ m.v ≤ 1073741824) ∧ (1 ≤ m.s ∧ m.s ≤ 32768) ∧ (16 ≤ m.c ∧ m.c ≤ 1024) ∧ countM m ≤ 128
instance (m : MM) : Decidable (numsOk m) := by unfold numsOk; infer_instance
/-- A manifest that may be. -/
def okM (m : MM) : Prop := numsOk m ∧ (m.u.length : Int) = countM m ∧ ∀ x ∈ m.u, x.toNat < 16777216
instance (m : MM) : Decidable (okM m) := by unfold okM; infer_instance
theorem countM_pos {m : MM} (h : numsOk m) : 1 ≤ countM m := by
  obtain ⟨_, ⟨h1, _⟩, ⟨h2, _⟩, _⟩ := h
  unfold countM
  exact (Int.le_ediv_iff_mul_le (by omega)).2 (by omega)
theorem okM_len {m : MM} (h : okM m) : m.u.length ≤ 128 ∧ 0 < m.u.length := by
  have h1 := countM_pos h.1
  have h2 := h.1.2.2.2
  have h3 := h.2.1
  omega
/-- Where a chunk begins, and how many bytes it has. -/
def atM (m : MM) (i : Int) : Int := m.c * i
def lenM (m : MM) (i : Int) : Int := min m.c (m.s - m.c * i)
theorem span_bounds {m : MM} (h : numsOk m) {i : Int} (h0 : 0 ≤ i) (h1 : i < countM m) : 0 ≤ atM m i ∧ 1 ≤ lenM m i ∧ atM m i + lenM m i ≤ m.s ∧ atM m i ≤ 32768 ∧ lenM m i ≤ 1024 := by
  obtain ⟨_, ⟨s1, s2⟩, ⟨c1, c2⟩, _⟩ := h
  unfold countM at h1
  have h2 : i * m.c ≤ m.s + m.c - 1 - m.c := by
    have := (Int.le_ediv_iff_mul_le (a := i + 1) (b := m.s + m.c - 1) (c := m.c) (by omega)).1 (by omega)
    rw [Int.add_mul] at this
    omega
  have h3 : 0 ≤ m.c * i := Int.mul_nonneg (by omega) h0
  rw [Int.mul_comm] at h2
  unfold atM lenM
  omega

/-- Words that lie in a slice. -/
def WRow (w : World) (b off : Nat) (u : List (BitVec 32)) : Prop := ∀ j (h : j < u.length), w.cell? ⟨b, off + j, none⟩ = some (v32 u[j])
def Wds (w : World) (x : Value) (u : List (BitVec 32)) : Prop := ∃ ao c, x = .slice ao u.length c ∧ (0 < u.length → ∃ b off, ao = some ⟨b, off, none⟩ ∧ u.length ≤ c ∧ WRow w b off u ∧ b < w.heap.size)
theorem Wds.below {w w' : World} {B : Nat} {x : Value} {u : List (BitVec 32)} (h : Wds w x u) (hb : Below B w w') (hB : w.heap.size ≤ B) : Wds w' x u := by
  obtain ⟨ao, c, rfl, h2⟩ := h
  refine ⟨ao, c, rfl, fun h0 => ?_⟩
  obtain ⟨b, off, h3, h4, h5, h6⟩ := h2 h0
  exact ⟨b, off, h3, h4, fun j hj => by rw [hb.cell (p := ⟨b, off + j, none⟩) (Nat.lt_of_lt_of_le h6 hB)]; exact h5 j hj, Nat.lt_of_lt_of_le h6 hb.size⟩
theorem Wds.alloc {w : World} {x : Value} {u : List (BitVec 32)} (h : Wds w x u) (o : Obj) : Wds (w.alloc o) x u := h.below ((Below.refl w.heap.size w).alloc (Nat.le_refl _) o) (Nat.le_refl _)
theorem Wds.one {w : World} {x : Value} {u : List (BitVec 32)} (h : Wds w x u) : x.oneCell' = true := by obtain ⟨ao, c, rfl, _⟩ := h; rfl
/-- A whole manifest read off its block. -/
theorem exec_loadM {a : Act} {o : Oper} {w : World} (x : Operand) (ho : o.op = .load 27 x) (g : Nat) (hx : a.eval x = .pointer (some ⟨g, 0, none⟩)) {MC : Array Value} (hb : Blk w g 27 MC) (hi : (Tryd.prog.info? 27).map (·.size) = some MC.size) : (execOp a.eval o).run Tryd.prog w = .ok (.value (.agg MC)) w := by
  have hc : w.rangeAt g 0 MC.toList := fun j v hv => by rw [Nat.zero_add]; exact hb.cell (by simpa using hv)
  unfold execOp
  simp only [ho, hx, Instr.loadAt, Instr.sureAddr, Sem.run_bind, Sem.run_pure, Result.andThen_ok, run_loadVar_mid w g 0 27 MC.toList _ hc Tryd.underlying27 rfl (by rw [Array.length_toList]; exact hi), Array.toArray_toList]
theorem exec_notM {a : Act} {o : Oper} {w : World} (t : TypeId) (x : Operand) (ho : o.op = .unOp .not t x) (b r : Bool) (hx : a.eval x = .bool b) (h : (!b) = r) : (execOp a.eval o).run Tryd.prog w = .ok (.value (.bool r)) w := by
  subst h
  unfold execOp
  simp [ho, hx]
  rfl
theorem exec_neM {a : Act} {o : Oper} {w : World} (t : TypeId) (x y : Operand) (ho : o.op = .binOp .neq t x y t) (m n : Int) (b : Bool) (hx : a.eval x = .int .i64 m) (hy : a.eval y = .int .i64 n) (h : (m != n) = b) : (execOp a.eval o).run Tryd.prog w = .ok (.value (.bool b)) w := by
  subst h
  unfold execOp
  simp only [ho, hx, hy]
  simp [go_sem]
theorem exec_lenM {a : Act} {o : Oper} {w : World} (t e : TypeId) (ht : Tryd.prog.underlying t = some (.slice e)) (x : Operand) (ho : o.op = .call { callee := .builtin .len, args := #[x], argTypes := #[t] }) (ao : Option Addr) (n c : Nat) (hx : a.eval x = .slice ao n c) : (execOp a.eval o).run Tryd.prog w = .ok (.value (.int .i64 (n : Int))) w := by
  unfold execOp
  have hl : ∀ cs, builtin .len #[t] o.type cs #[.slice ao n c] = (do pure (.value (← Builtin.len_ #[t] o.type #[.slice ao n c]))) := fun _ => rfl
  simp [ho, resolve, invoke, hx, hl, Builtin.len_, run_underlying ht]
  rfl
end Go.Proofs.YthophonofaaafaaDoor
namespace Go.Proofs.YthophonofaaafaaDoor
open Go.RowKit

set_option maxRecDepth 100000 in
set_option maxHeartbeats 1000000 in
theorem chunks_any (m : MM) (su : Value) (w : World) (hs : 0 ≤ m.s ∧ m.s ≤ 1000000) (hc : 1 ≤ m.c ∧ m.c ≤ 1000000) :
    Calls Tryd.prog 34 #[manV m su] w fun e w' => e = .returned (.int .i64 (countM m)) ∧ Below w.heap.size w w' := by
  have hB := (Below.refl w.heap.size w).alloc (Nat.le_refl _) (.cells (manC m su) 27)
  have k := Blk.new w 27 (manC m su)
  have c1 := k.cell (manC_1 m su)
  have c2 := k.cell (manC_2 m su)
  obtain ⟨s1, s2⟩ := hs
  obtain ⟨d1, d2⟩ := hc
  have HQ : Hid (countM m = (m.s + m.c - 1) / m.c) := rfl
  generalize countM m = N at *
  unfold manV
  generalize manC m su = MC at *
  generalize m.s = sz at *
  generalize m.c = ch at *
  go_enter Tryd.func34, Tryd.ntmps34
  go_wp2
  go_ret
  exact ⟨ret_int (by rw [HQ.out]), hB⟩

set_option maxRecDepth 100000 in
set_option maxHeartbeats 1000000 in
theorem mspan_any (m : MM) (su : Value) (i : Int) (w : World) (hn : numsOk m) (h0 : 0 ≤ i) (h1 : i < countM m) :
    Calls Tryd.prog 33 #[manV m su, .int .i64 i] w fun e w' => e = .returned (.tuple #[.int .i64 (atM m i), .int .i64 (lenM m i)]) ∧ Below w.heap.size w w' := by
  have hB := (Below.refl w.heap.size w).alloc (Nat.le_refl _) (.cells (manC m su) 27)
  have k := Blk.new w 27 (manC m su)
  have c1 := k.cell (manC_1 m su)
  have c2 := k.cell (manC_2 m su)
  have hb := span_bounds hn h0 h1
  obtain ⟨_, ⟨s1, s2⟩, ⟨d1, d2⟩, _⟩ := hn
  have HA : Hid (atM m i = m.c * i) := rfl
  have HL : Hid (lenM m i = min m.c (m.s - m.c * i)) := rfl
  clear h0 h1
  rw [HL.out, HA.out] at hb
  have w1 : wrap64 (m.c * i) = m.c * i := by unfold wrap64; omega
  generalize lenM m i = LN at *
  unfold manV
  generalize manC m su = MC at *
  generalize m.s = sz at *
  generalize m.c = ch at *
  obtain ⟨A, hA⟩ : ∃ A, A = ch * i := ⟨_, rfl⟩
  rw [← hA] at hb HL HA
  have w1' : wrap64 (ch * i) = A := w1.trans hA.symm
  rw [HA.out]
  clear HA hA w1
  go_enter Tryd.func33, Tryd.ntmps33
  go_wp2
  go_region
  go_wp2
  go_ret2
  exact ⟨by rw [HL.out, w1']; rfl, hB.drew⟩

def oddN (n a b : Int) : Bool := decide (n < a) || decide (b < n)
theorem oddN_iff (n a b : Int) : oddN n a b = false ↔ a ≤ n ∧ n ≤ b := by
  unfold oddN
  rw [Bool.or_eq_false_iff, decide_eq_false_iff_not, decide_eq_false_iff_not]
  omega
theorem oddN_true {n a b : Int} (h : oddN n a b = true) : ¬ (a ≤ n ∧ n ≤ b) := fun h2 => by rw [(oddN_iff n a b).2 h2] at h; cases h
set_option maxRecDepth 100000 in
theorem modd_any (n a b : Int) (w : World) : Calls Tryd.prog 50 #[.int .i64 n, .int .i64 a, .int .i64 b] w fun e w' => e = .returned (.bool (oddN n a b)) ∧ w' = w := by
  unfold oddN
  by_cases h1 : n < a
  · rw [decide_eq_true h1]
    go_enter Tryd.func50, Tryd.ntmps50
    go_wp2
    go_ret
    exact ⟨rfl, rfl⟩
  · by_cases h2 : b < n
    · rw [decide_eq_false h1, decide_eq_true h2]
      go_enter Tryd.func50, Tryd.ntmps50
      go_wp2
      go_ret
      exact ⟨rfl, rfl⟩
    · rw [decide_eq_false h1, decide_eq_false h2]
      go_enter Tryd.func50, Tryd.ntmps50
      go_wp2
      go_ret
      exact ⟨rfl, rfl⟩
set_option maxRecDepth 100000 in
set_option maxHeartbeats 1000000 in
theorem nums_any (m : MM) (su : Value) (w : World) (hh : m.h.length = 32) :
    Calls Tryd.prog 29 #[manV m su] w fun e w' => e = .returned (.bool (decide (numsOk m))) ∧ Below w.heap.size w w' := by
  have hB := (Below.refl w.heap.size w).alloc (Nat.le_refl _) (.cells (manC m su) 27)
  have k := Blk.new w 27 (manC m su)
  have c0 := k.cell (manC_0 m su)
  have c1 := k.cell (manC_1 m su)
  have c2 := k.cell (manC_2 m su)
  have hi := manC_info m su hh
  have HO : Hid (∀ n a b w, Calls Tryd.prog 50 #[.int .i64 n, .int .i64 a, .int .i64 b] w fun e w' => e = .returned (.bool (oddN n a b)) ∧ w' = w) := modd_any
  have HC : Hid ((0 ≤ m.s ∧ m.s ≤ 1000000) → (1 ≤ m.c ∧ m.c ≤ 1000000) → ∀ w, Calls Tryd.prog 34 #[manV m su] w fun e w' => e = .returned (.int .i64 (countM m)) ∧ Below w.heap.size w w') := fun h1 h2 w => chunks_any m su w h1 h2
  have HR : Hid (numsOk m ↔ (1 ≤ m.v ∧ m.v ≤ 1073741824) ∧ (1 ≤ m.s ∧ m.s ≤ 32768) ∧ (16 ≤ m.c ∧ m.c ≤ 1024) ∧ countM m ≤ 128) := Iff.rfl
  clear hh
  unfold manV at *
  by_cases hn : numsOk m
  · rw [decide_eq_true hn]
    obtain ⟨hv, hs, hc, hk⟩ := HR.out.1 hn
    have o1 := (oddN_iff m.v 1 1073741824).2 hv
    have o2 := (oddN_iff m.s 1 32768).2 hs
    have o3 := (oddN_iff m.c 16 1024).2 hc
    have HC' := HC.out (by omega) (by omega)
    clear HR HC hn
    generalize countM m = N at *
    generalize manC m su = MC at *
    generalize m.v = v at *
    generalize m.s = sz at *
    generalize m.c = ch at *
    have HCC : Hid (∀ w, Calls Tryd.prog 34 #[.agg MC] w fun e w' => e = .returned (.int .i64 N) ∧ Below w.heap.size w w') := HC'
    clear HC'
    go_enter Tryd.func29, Tryd.ntmps29
    go_wp2_with fail
    refine (HO.out _ _ _ _).mono ?_
    rintro e w1 ⟨rfl, rfl⟩
    go_wp2_with fail
    refine (HO.out _ _ _ _).mono ?_
    rintro e w1 ⟨rfl, rfl⟩
    go_wp2_with fail
    refine (HO.out _ _ _ _).mono ?_
    rintro e w1 ⟨rfl, rfl⟩
    go_wp2_with (refine wpList_load_row rfl 27 _ rfl w.heap.size rfl 27 _ (0, 0) _ k Tryd.underlying27 rfl hi ?_)
    refine (HCC.out _).mono ?_
    rintro e w2 ⟨rfl, hb2⟩
    go_wp2
    go_ret
    exact ⟨rfl, hB.trans (hb2.mono hB.size)⟩
  · rw [decide_eq_false hn]
    have HN : Hid (¬ numsOk m) := hn
    clear hn
    cases o1 : oddN m.v 1 1073741824 with
    | true =>
      clear HR HC HN
      generalize manC m su = MC at *
      generalize m.v = v at *
      generalize m.s = sz at *
      generalize m.c = ch at *
      go_enter Tryd.func29, Tryd.ntmps29
      go_wp2_with (go_at_call 50; refine (HO.out _ _ _ _).mono ?_; rintro e w1 ⟨rfl, rfl⟩)
      go_ret
      exact ⟨rfl, hB⟩
    | false =>
      cases o2 : oddN m.s 1 32768 with
      | true =>
        clear HR HC HN
        generalize manC m su = MC at *
        generalize m.v = v at *
        generalize m.s = sz at *
        generalize m.c = ch at *
        go_enter Tryd.func29, Tryd.ntmps29
        go_wp2_with (go_at_call 50; refine (HO.out _ _ _ _).mono ?_; rintro e w1 ⟨rfl, rfl⟩)
        go_ret
        exact ⟨rfl, hB⟩
      | false =>
        cases o3 : oddN m.c 16 1024 with
        | true =>
          clear HR HC HN
          generalize manC m su = MC at *
          generalize m.v = v at *
          generalize m.s = sz at *
          generalize m.c = ch at *
          go_enter Tryd.func29, Tryd.ntmps29
          go_wp2_with (go_at_call 50; refine (HO.out _ _ _ _).mono ?_; rintro e w1 ⟨rfl, rfl⟩)
          go_ret
          exact ⟨rfl, hB⟩
        | false =>
          have hs := (oddN_iff _ _ _).1 o2
          have hc := (oddN_iff _ _ _).1 o3
          have hk : ¬ countM m ≤ 128 := fun h => HN.out (HR.out.2 ⟨(oddN_iff _ _ _).1 o1, hs, hc, h⟩)
          have HC' := HC.out (by omega) (by omega)
          clear HR HC HN
          generalize countM m = N at *
          generalize manC m su = MC at *
          generalize m.v = v at *
          generalize m.s = sz at *
          generalize m.c = ch at *
          have HCC : Hid (∀ w, Calls Tryd.prog 34 #[.agg MC] w fun e w' => e = .returned (.int .i64 N) ∧ Below w.heap.size w w') := HC'
          clear HC'
          go_enter Tryd.func29, Tryd.ntmps29
          go_wp2_with fail
          refine (HO.out _ _ _ _).mono ?_
          rintro e w1 ⟨rfl, rfl⟩
          go_wp2_with fail
          refine (HO.out _ _ _ _).mono ?_
          rintro e w1 ⟨rfl, rfl⟩
          go_wp2_with fail
          refine (HO.out _ _ _ _).mono ?_
          rintro e w1 ⟨rfl, rfl⟩
          go_wp2_with (refine wpList_load_row rfl 27 _ rfl w.heap.size rfl 27 _ (0, 0) _ k Tryd.underlying27 rfl hi ?_)
          refine (HCC.out _).mono ?_
          rintro e w2 ⟨rfl, hb2⟩
          go_wp2
          go_ret
          exact ⟨ret_bool (decide_eq_false (by omega)), hB.trans (hb2.mono hB.size)⟩
end Go.Proofs.YthophonofaaafaaDoor
namespace Go.Proofs.YthophonofaaafaaDoor
open Go.RowKit

def tooBig (x : BitVec 32) : Bool := decide (16777215 < x.toNat)
theorem n32_gt (x : BitVec 32) : (16777215 : Int) < n32 x ↔ 16777215 < x.toNat := by unfold n32; omega
set_option maxRecDepth 100000 in
theorem big_any (x : BitVec 32) (w : World) : Calls Tryd.prog 35 #[v32 x] w fun e w' => e = .returned (.bool (tooBig x)) ∧ w' = w := by
  have hd : decide ((16777215 : Int) < n32 x) = tooBig x := by unfold tooBig; exact decide_eq_decide.2 (n32_gt x)
  generalize tooBig x = B at *
  go_enter Tryd.func35, Tryd.ntmps35
  go_wp2
  go_ret
  exact ⟨rfl, rfl⟩
theorem Wds.shape {w : World} {x : Value} {u : List (BitVec 32)} (h : Wds w x u) : ∃ ao c, x = .slice ao u.length c := by obtain ⟨ao, c, h, _⟩ := h; exact ⟨ao, c, h⟩
theorem small_upto {u : List (BitVec 32)} {k : Nat} (hlt : k < u.length) (H : ∀ j (h : j < u.length), j < k → tooBig u[j] = false) (ht : tooBig u[k] = false) : ∀ j (h : j < u.length), j < k + 1 → tooBig u[j] = false := fun j h1 h2 => by
  rcases Nat.lt_succ_iff_lt_or_eq.1 h2 with h3 | rfl
  · exact H j h1 h3
  · exact ht
set_option maxRecDepth 100000 in
set_option maxHeartbeats 1000000 in
theorem indF_any (x : Value) (u : List (BitVec 32)) (w : World) (hm : u.length ≤ 1000000000) (hu : Wds w x u) :
    Calls Tryd.prog 56 #[x, .func (.func 35) #[] #[]] w fun e w' => (∃ z : Int, e = .returned (.int .i64 z) ∧ (0 ≤ z ↔ ∃ y ∈ u, tooBig y = true)) ∧ w' = w := by
  have HBG : Hid (∀ y, Calls Tryd.prog 35 #[v32 y] w fun e w' => e = .returned (.bool (tooBig y)) ∧ w' = w) := fun y => big_any y w
  obtain ⟨ao, c, rfl, hrow⟩ := hu
  have HR : Hid (0 < u.length → ∃ b off, ao = some ⟨b, off, none⟩ ∧ u.length ≤ c ∧ WRow w b off u ∧ b < w.heap.size) := hrow
  clear hrow
  go_enter Tryd.func56, Tryd.ntmps56
  go_wp2
  go_loop [8] (fun i => ∃ k : Nat, k ≤ u.length ∧ i = .int .i64 (k : Int) ∧ Hid (∀ j (h : j < u.length), j < k → tooBig u[j] = false)) (fun i => u.length - (intOf i).toNat)
  case atStart => exact ⟨0, Nat.zero_le _, rfl, fun j _ h => by omega⟩
  case round =>
    obtain ⟨k, hk, rfl, HS⟩ := hrel
    by_cases hlt : k < u.length
    · obtain ⟨b, off, rfl, hc, hr, hb⟩ := HR.out (by omega)
      have hc1 := hr k hlt
      obtain ⟨y, hy⟩ : ∃ y, y = u[k] := ⟨_, rfl⟩
      rw [← hy] at hc1
      have HY : Hid (y = u[k]) := hy
      clear hy hr
      cases ht : tooBig y with
      | true =>
        go_wp2_with fail
        refine (HBG.out y).mono ?_
        rintro e w1 ⟨rfl, rfl⟩
        go_wp2
        go_ret
        exact ⟨⟨_, rfl, ⟨fun _ => ⟨u[k], List.getElem_mem hlt, by rw [← HY.out]; exact ht⟩, fun _ => by omega⟩⟩, rfl⟩
      | false =>
        go_wp2_with fail
        refine (HBG.out y).mono ?_
        rintro e w1 ⟨rfl, rfl⟩
        go_wp2
        go_round
        case rel => exact ⟨k + 1, hlt, by go_num, small_upto hlt HS.out (by rw [← HY.out]; exact ht)⟩
        case measure => simp [intOf]; omega
    · go_wp2
      go_ret
      refine ⟨⟨_, rfl, ⟨fun h => by omega, fun ⟨y, hy, ht⟩ => ?_⟩⟩, rfl⟩
      obtain ⟨j, hj, rfl⟩ := List.getElem_of_mem hy
      rw [HS.out j hj (by omega)] at ht
      cases ht
set_option maxRecDepth 100000 in
theorem contF_any (x : Value) (u : List (BitVec 32)) (w : World) (hm : u.length ≤ 1000000000) (hu : Wds w x u) :
    Calls Tryd.prog 36 #[x, .func (.func 35) #[] #[]] w fun e w' => e = .returned (.bool (u.any tooBig)) ∧ w' = w := by
  have HI := indF_any x u w hm hu
  obtain ⟨ao, c, rfl⟩ := hu.shape
  have HH : Hid (Calls Tryd.prog 56 #[.slice ao u.length c, .func (.func 35) #[] #[]] w fun e w' => (∃ z : Int, e = .returned (.int .i64 z) ∧ (0 ≤ z ↔ ∃ y ∈ u, tooBig y = true)) ∧ w' = w) := HI
  clear HI
  go_enter Tryd.func36, Tryd.ntmps36
  go_wp2_with fail
  refine HH.out.mono ?_
  rintro e w1 ⟨⟨z, rfl, hz⟩, rfl⟩
  have hd : decide (0 ≤ z) = u.any tooBig := by
    rw [Bool.eq_iff_iff, decide_eq_true_iff, hz, List.any_eq_true]
  have HU : Hid (decide (0 ≤ z) = u.any tooBig) := hd
  clear hz hd
  go_wp2
  go_ret
  exact ⟨ret_bool HU.out, rfl⟩
theorem okM_iff (m : MM) : okM m ↔ numsOk m ∧ (m.u.length : Int) = countM m ∧ m.u.any tooBig = false := by
  unfold okM
  refine and_congr Iff.rfl (and_congr Iff.rfl ?_)
  rw [List.any_eq_false]
  unfold tooBig
  constructor
  · intro h x hx; have := h x hx; simp; omega
  · intro h x hx; have := h x hx; simp at this; omega
set_option maxRecDepth 100000 in
set_option maxHeartbeats 1000000 in
theorem mright_any (m : MM) (su : Value) (w : World) (hh : m.h.length = 32) (hm : m.u.length ≤ 1000000000) (hu : Wds w su m.u) :
    Calls Tryd.prog 16 #[manV m su] w fun e w' => e = .returned (.bool (decide (okM m))) ∧ Below w.heap.size w w' := by
  have hB := (Below.refl w.heap.size w).alloc (Nat.le_refl _) (.cells (manC m su) 27)
  have k := Blk.new w 27 (manC m su)
  have hi := manC_info m su hh
  have h35 := manC_35 m su hh
  have HNU : Hid (∀ W, Calls Tryd.prog 29 #[manV m su] W fun e w' => e = .returned (.bool (decide (numsOk m))) ∧ Below W.heap.size W w') := fun W => nums_any m su W hh
  have HC : Hid (numsOk m → ∀ W, Calls Tryd.prog 34 #[manV m su] W fun e w' => e = .returned (.int .i64 (countM m)) ∧ Below W.heap.size W w') := fun h W => chunks_any m su W (by have := h.2.1; omega) (by have := h.2.2.1; omega)
  have HF : Hid (∀ W, Wds W su m.u → Calls Tryd.prog 36 #[su, .func (.func 35) #[] #[]] W fun e w' => e = .returned (.bool (m.u.any tooBig)) ∧ w' = W) := fun W h => contF_any su m.u W hm h
  have HOK : Hid (okM m ↔ numsOk m ∧ (m.u.length : Int) = countM m ∧ m.u.any tooBig = false) := okM_iff m
  have hu1 := hu.below hB (Nat.le_refl _)
  obtain ⟨ao, c, rfl⟩ := hu.shape
  clear hu
  unfold manV at *
  generalize manC m (.slice ao m.u.length c) = MC at *
  obtain ⟨B0, hB0⟩ : ∃ B0, B0 = w.heap.size := ⟨_, rfl⟩
  rw [← hB0] at k
  by_cases hn : numsOk m
  · rw [decide_eq_true hn] at HNU
    have HCC : Hid (∀ W, Calls Tryd.prog 34 #[.agg MC] W fun e w' => e = .returned (.int .i64 (countM m)) ∧ Below W.heap.size W w') := HC.out hn
    by_cases hl : (m.u.length : Int) = countM m
    · have hok : Hid (decide (okM m) = !(m.u.any tooBig)) := by
        show _ = _
        cases hb : m.u.any tooBig with
        | true => exact decide_eq_false (fun h => by have := (HOK.out.1 h).2.2; rw [hb] at this; cases this)
        | false => exact decide_eq_true (HOK.out.2 ⟨hn, hl, hb⟩)
      rw [hok.out]
      have hne : ((m.u.length : Int) != countM m) = false := by rw [hl]; simp
      clear HOK HC hn hok hl
      generalize countM m = N at *
      generalize m.u.any tooBig = TB at *
      go_enter Tryd.func16, Tryd.ntmps16
      go_wp2_with fail
      rw [← hB0]
      clear hB0
      have hS0 : Blk (w.alloc (.cells MC 27)).drew B0 27 MC := k.drew
      refine held_begin (fun V => Blk V B0 27 MC) (by kernel_rfl) ?_
      refine held_take 0 4 _ (.agg MC) rfl rfl (by kernel_rfl) (by kernel_rfl) (by kernel_rfl) rfl hS0 (fun V hV => exec_loadM _ rfl _ rfl hV hi) ?_
      simp only [Act.put, List.setIfInBounds_toArray, List.set_cons_succ, List.set_cons_zero]
      refine held_all1 1 (by kernel_rfl) (op_call 1 5 _ 29 #[.agg MC] rfl rfl rfl (exec_one 29 _ _ rfl _ rfl Tryd.call29) ((HNU.out _).mono ?_))
      rintro e w1 ⟨rfl, hb1⟩
      have hS1 := hS0.below hb1 hS0.lt
      have hB1 : Below w.heap.size w w1 := hB.drew.trans (hb1.mono hB.size)
      refine ⟨_, rfl, hS1, ?_⟩
      simp only [Act.put, List.setIfInBounds_toArray, List.set_cons_succ, List.set_cons_zero]
      refine held_take 2 6 _ (.bool false) rfl rfl (by kernel_rfl) (by kernel_rfl) (by kernel_rfl) rfl hS1 (fun V _ => exec_notM _ _ rfl _ _ rfl rfl) ?_
      simp only [Act.put, List.setIfInBounds_toArray, List.set_cons_succ, List.set_cons_zero]
      refine held_take 3 7 _ (.bool false) rfl rfl (by kernel_rfl) (by kernel_rfl) (by kernel_rfl) rfl hS1 (fun _ _ => rfl) ?_
      simp only [Act.put, List.setIfInBounds_toArray, List.set_cons_succ, List.set_cons_zero]
      refine held_take 4 8 _ (.pointer (some ⟨B0, 35, none⟩)) rfl rfl (by kernel_rfl) (by kernel_rfl) (by kernel_rfl) rfl hS1 (fun _ _ => rfl) ?_
      simp only [Act.put, List.setIfInBounds_toArray, List.set_cons_succ, List.set_cons_zero]
      refine held_take 5 9 _ (.slice ao m.u.length c) rfl rfl (by kernel_rfl) (by kernel_rfl) (by kernel_rfl) rfl hS1 (fun V hV => exec_loadc 25 _ rfl _ _ rfl (load_one 25 (fun _ => by kernel_rfl) V _ _ _ (hV.cell h35))) ?_
      simp only [Act.put, List.setIfInBounds_toArray, List.set_cons_succ, List.set_cons_zero]
      refine held_take 6 10 _ (.int .i64 (m.u.length : Int)) rfl rfl (by kernel_rfl) (by kernel_rfl) (by kernel_rfl) rfl hS1 (fun V _ => exec_lenM 25 49 Tryd.underlying25 _ rfl _ _ _ rfl) ?_
      simp only [Act.put, List.setIfInBounds_toArray, List.set_cons_succ, List.set_cons_zero]
      refine held_take 7 11 _ (.agg MC) rfl rfl (by kernel_rfl) (by kernel_rfl) (by kernel_rfl) rfl hS1 (fun V hV => exec_loadM _ rfl _ rfl hV hi) ?_
      simp only [Act.put, List.setIfInBounds_toArray, List.set_cons_succ, List.set_cons_zero]
      refine held_all1 8 (by kernel_rfl) (op_call 8 12 _ 34 #[.agg MC] rfl rfl rfl (exec_one 34 _ _ rfl _ rfl Tryd.call34) ((HCC.out _).mono ?_))
      rintro e w2 ⟨rfl, hb2⟩
      have hS2 := hS1.below hb2 hS1.lt
      have hB2 : Below w.heap.size w w2 := hB1.trans (hb2.mono hB1.size)
      refine ⟨_, rfl, hS2, ?_⟩
      simp only [Act.put, List.setIfInBounds_toArray, List.set_cons_succ, List.set_cons_zero]
      refine held_take 9 13 _ (.bool false) rfl rfl (by kernel_rfl) (by kernel_rfl) (by kernel_rfl) rfl hS2 (fun V _ => exec_neM _ _ _ rfl _ _ _ rfl rfl hne) ?_
      simp only [Act.put, List.setIfInBounds_toArray, List.set_cons_succ, List.set_cons_zero]
      refine held_take 10 14 _ (.bool false) rfl rfl (by kernel_rfl) (by kernel_rfl) (by kernel_rfl) rfl hS2 (fun _ _ => rfl) ?_
      simp only [Act.put, List.setIfInBounds_toArray, List.set_cons_succ, List.set_cons_zero]
      refine wpAnyH_done (by kernel_rfl) ?_ _
      refine NoPanic.normal ?_
      have c35 := hS2.cell h35
      have hu2 := (show Wds (w.alloc (.cells MC 27)).drew (.slice ao m.u.length c) m.u from hu1).below (Below.trans hb1 (hb2.mono hb1.size)) (Nat.le_refl _)
      go_wp2_with fail
      refine (HF.out _ hu2).mono ?_
      rintro e w3 ⟨rfl, hw3⟩
      subst hw3
      go_wp2
      go_ret
      exact ⟨rfl, hB2⟩
    · rw [decide_eq_false (fun h => hl (HOK.out.1 h).2.1)]
      have hne : ((m.u.length : Int) != countM m) = true := by simpa using hl
      clear HOK HC HF hn hl
      generalize countM m = N at *
      go_enter Tryd.func16, Tryd.ntmps16
      go_wp2_with fail
      rw [← hB0]
      clear hB0
      have hS0 : Blk (w.alloc (.cells MC 27)).drew B0 27 MC := k.drew
      refine held_begin (fun V => Blk V B0 27 MC) (by kernel_rfl) ?_
      refine held_take 0 4 _ (.agg MC) rfl rfl (by kernel_rfl) (by kernel_rfl) (by kernel_rfl) rfl hS0 (fun V hV => exec_loadM _ rfl _ rfl hV hi) ?_
      simp only [Act.put, List.setIfInBounds_toArray, List.set_cons_succ, List.set_cons_zero]
      refine held_all1 1 (by kernel_rfl) (op_call 1 5 _ 29 #[.agg MC] rfl rfl rfl (exec_one 29 _ _ rfl _ rfl Tryd.call29) ((HNU.out _).mono ?_))
      rintro e w1 ⟨rfl, hb1⟩
      have hS1 := hS0.below hb1 hS0.lt
      have hB1 : Below w.heap.size w w1 := hB.drew.trans (hb1.mono hB.size)
      refine ⟨_, rfl, hS1, ?_⟩
      simp only [Act.put, List.setIfInBounds_toArray, List.set_cons_succ, List.set_cons_zero]
      refine held_take 2 6 _ (.bool false) rfl rfl (by kernel_rfl) (by kernel_rfl) (by kernel_rfl) rfl hS1 (fun V _ => exec_notM _ _ rfl _ _ rfl rfl) ?_
      simp only [Act.put, List.setIfInBounds_toArray, List.set_cons_succ, List.set_cons_zero]
      refine held_take 3 7 _ (.bool false) rfl rfl (by kernel_rfl) (by kernel_rfl) (by kernel_rfl) rfl hS1 (fun _ _ => rfl) ?_
      simp only [Act.put, List.setIfInBounds_toArray, List.set_cons_succ, List.set_cons_zero]
      refine held_take 4 8 _ (.pointer (some ⟨B0, 35, none⟩)) rfl rfl (by kernel_rfl) (by kernel_rfl) (by kernel_rfl) rfl hS1 (fun _ _ => rfl) ?_
      simp only [Act.put, List.setIfInBounds_toArray, List.set_cons_succ, List.set_cons_zero]
      refine held_take 5 9 _ (.slice ao m.u.length c) rfl rfl (by kernel_rfl) (by kernel_rfl) (by kernel_rfl) rfl hS1 (fun V hV => exec_loadc 25 _ rfl _ _ rfl (load_one 25 (fun _ => by kernel_rfl) V _ _ _ (hV.cell h35))) ?_
      simp only [Act.put, List.setIfInBounds_toArray, List.set_cons_succ, List.set_cons_zero]
      refine held_take 6 10 _ (.int .i64 (m.u.length : Int)) rfl rfl (by kernel_rfl) (by kernel_rfl) (by kernel_rfl) rfl hS1 (fun V _ => exec_lenM 25 49 Tryd.underlying25 _ rfl _ _ _ rfl) ?_
      simp only [Act.put, List.setIfInBounds_toArray, List.set_cons_succ, List.set_cons_zero]
      refine held_take 7 11 _ (.agg MC) rfl rfl (by kernel_rfl) (by kernel_rfl) (by kernel_rfl) rfl hS1 (fun V hV => exec_loadM _ rfl _ rfl hV hi) ?_
      simp only [Act.put, List.setIfInBounds_toArray, List.set_cons_succ, List.set_cons_zero]
      refine held_all1 8 (by kernel_rfl) (op_call 8 12 _ 34 #[.agg MC] rfl rfl rfl (exec_one 34 _ _ rfl _ rfl Tryd.call34) ((HCC.out _).mono ?_))
      rintro e w2 ⟨rfl, hb2⟩
      have hS2 := hS1.below hb2 hS1.lt
      have hB2 : Below w.heap.size w w2 := hB1.trans (hb2.mono hB1.size)
      refine ⟨_, rfl, hS2, ?_⟩
      simp only [Act.put, List.setIfInBounds_toArray, List.set_cons_succ, List.set_cons_zero]
      refine held_take 9 13 _ (.bool true) rfl rfl (by kernel_rfl) (by kernel_rfl) (by kernel_rfl) rfl hS2 (fun V _ => exec_neM _ _ _ rfl _ _ _ rfl rfl hne) ?_
      simp only [Act.put, List.setIfInBounds_toArray, List.set_cons_succ, List.set_cons_zero]
      refine held_take 10 14 _ (.bool true) rfl rfl (by kernel_rfl) (by kernel_rfl) (by kernel_rfl) rfl hS2 (fun _ _ => rfl) ?_
      simp only [Act.put, List.setIfInBounds_toArray, List.set_cons_succ, List.set_cons_zero]
      refine wpAnyH_done (by kernel_rfl) ?_ _
      refine NoPanic.normal ?_
      go_wp2
      go_ret
      exact ⟨rfl, hB2⟩
  · rw [decide_eq_false hn] at HNU
    rw [decide_eq_false (fun h => hn (HOK.out.1 h).1)]
    clear HOK HC HF hn
    go_enter Tryd.func16, Tryd.ntmps16
    go_wp2_with fail
    rw [← hB0]
    clear hB0
    have hS0 : Blk (w.alloc (.cells MC 27)).drew B0 27 MC := k.drew
    refine held_begin (fun V => Blk V B0 27 MC) (by kernel_rfl) ?_
    refine held_take 0 4 _ (.agg MC) rfl rfl (by kernel_rfl) (by kernel_rfl) (by kernel_rfl) rfl hS0 (fun V hV => exec_loadM _ rfl _ rfl hV hi) ?_
    simp only [Act.put, List.setIfInBounds_toArray, List.set_cons_succ, List.set_cons_zero]
    refine held_all1 1 (by kernel_rfl) (op_call 1 5 _ 29 #[.agg MC] rfl rfl rfl (exec_one 29 _ _ rfl _ rfl Tryd.call29) ((HNU.out _).mono ?_))
    rintro e w1 ⟨rfl, hb1⟩
    have hS1 := hS0.below hb1 hS0.lt
    have hB1 : Below w.heap.size w w1 := hB.drew.trans (hb1.mono hB.size)
    refine ⟨_, rfl, hS1, ?_⟩
    simp only [Act.put, List.setIfInBounds_toArray, List.set_cons_succ, List.set_cons_zero]
    refine held_take 2 6 _ (.bool true) rfl rfl (by kernel_rfl) (by kernel_rfl) (by kernel_rfl) rfl hS1 (fun V _ => exec_notM _ _ rfl _ _ rfl rfl) ?_
    simp only [Act.put, List.setIfInBounds_toArray, List.set_cons_succ, List.set_cons_zero]
    refine held_take 3 7 _ (.bool true) rfl rfl (by kernel_rfl) (by kernel_rfl) (by kernel_rfl) rfl hS1 (fun _ _ => rfl) ?_
    simp only [Act.put, List.setIfInBounds_toArray, List.set_cons_succ, List.set_cons_zero]
    refine held_pass 4 8 _ rfl rfl (by kernel_rfl) (by kernel_rfl) (by kernel_rfl) rfl hS1 ?_
    simp only [Act.put, List.setIfInBounds_toArray, List.set_cons_succ, List.set_cons_zero]
    refine held_pass 5 9 _ rfl rfl (by kernel_rfl) (by kernel_rfl) (by kernel_rfl) rfl hS1 ?_
    simp only [Act.put, List.setIfInBounds_toArray, List.set_cons_succ, List.set_cons_zero]
    refine held_pass 6 10 _ rfl rfl (by kernel_rfl) (by kernel_rfl) (by kernel_rfl) rfl hS1 ?_
    simp only [Act.put, List.setIfInBounds_toArray, List.set_cons_succ, List.set_cons_zero]
    refine held_pass 7 11 _ rfl rfl (by kernel_rfl) (by kernel_rfl) (by kernel_rfl) rfl hS1 ?_
    simp only [Act.put, List.setIfInBounds_toArray, List.set_cons_succ, List.set_cons_zero]
    refine held_pass 8 12 _ rfl rfl (by kernel_rfl) (by kernel_rfl) (by kernel_rfl) rfl hS1 ?_
    simp only [Act.put, List.setIfInBounds_toArray, List.set_cons_succ, List.set_cons_zero]
    refine held_pass 9 13 _ rfl rfl (by kernel_rfl) (by kernel_rfl) (by kernel_rfl) rfl hS1 ?_
    simp only [Act.put, List.setIfInBounds_toArray, List.set_cons_succ, List.set_cons_zero]
    refine held_take 10 14 _ (.bool true) rfl rfl (by kernel_rfl) (by kernel_rfl) (by kernel_rfl) rfl hS1 (fun _ _ => rfl) ?_
    simp only [Act.put, List.setIfInBounds_toArray, List.set_cons_succ, List.set_cons_zero]
    refine wpAnyH_done (by kernel_rfl) ?_ _
    refine NoPanic.normal ?_
    go_wp2
    go_ret
    exact ⟨rfl, hB1⟩
end Go.Proofs.YthophonofaaafaaDoor
