/-
  What is proved here: plain steps of manifest.manifestOf: conversions of its numbers, a new manifest, a hash copied into it. the document's Right, Count and Span of layer 10 answer as the plain functions do. operations on words and manifests that the document's manifest package uses.
  Conditions: those that each fact names.
-/
import Derived.Test.YtgfcindkfnjeoaaJManDecP
import Derived.Test.YtgfcindkfnjeoaaJManPlain
import Derived.Test.YtgfcindkfnjeoaaJManFresh
namespace Go.Proofs.Ytgfcindkfnjeoaa
open Go.RowKit

theorem conv_i64M (n : Nat) (h : n < 9223372036854775808) (w : World) : (convert 60 3 (.int .u64 (n : Int))).run Try.prog w = .ok (.int .i64 (n : Int)) w := by
  have hw : IntKind.i64.wrap (n : Int) = (n : Int) := by rw [IntKind.wrap_i64]; omega
  have h2 : (convert 60 3 (.int .u64 (n : Int))).run Try.prog w = .ok (.int .i64 (IntKind.i64.wrap (n : Int))) w := by kernel_rfl
  rw [h2, hw]
theorem conv_w32M (x : BitVec 32) (w : World) : (convert 60 74 (.int .u64 (x.toNat : Int))).run Try.prog w = .ok (v32 x) w := by
  have hx := x.isLt
  have hw : IntKind.u32.wrap (x.toNat : Int) = (x.toNat : Int) := by rw [IntKind.wrap_u32]; omega
  have h2 : (convert 60 74 (.int .u64 (x.toNat : Int))).run Try.prog w = .ok (.int .u32 (IntKind.u32.wrap (x.toNat : Int))) w := by kernel_rfl
  rw [h2, hw]
  rfl
theorem exec_allocM {a : Act} {o : Oper} {w : World} (ho : o.op = .alloc 25) : (execOp a.eval o).run Try.prog w = .ok (.value (.pointer (some ⟨w.heap.size, 0, none⟩))) (w.alloc (.cells (manC zeroM (.slice none 0 0)) 25)) := by
  have hz := zeroMan
  unfold execOp
  simp only [ho]
  simp [go_sem, hz]
theorem exec_copyM {w : World} (g off bb so sCap : Nat)
    (cur : Array Value) (t : TypeId) (hg : Blk w g t cur) (c : List UInt8) (hn : c.length = 32) (hr : Row w bb so c) (hfit : off + 32 ≤ cur.size) :
    ∃ w', (∀ (a : Act) (o : Oper) (d s : Operand), o.op = .call { callee := .builtin .copy, args := #[d, s], argTypes := #[26, 26] } → a.eval d = .slice (some ⟨g, off, none⟩) 32 32 → a.eval s = .slice (some ⟨bb, so, none⟩) 32 sCap → (execOp a.eval o).run Try.prog w = .ok (.value (.int .i64 32)) w') ∧ Blk w' g t (splice cur.toList off (c.map v8)).toArray ∧ w.grownBy w' (some g) := by
  have hsz : (Try.prog.info? 5).map (·.size) = some 1 := by kernel_rfl
  have hrun := fun ty => run_copy_row (P := Try.prog) w 26 26 ty 5 g off 32 32 ⟨bb, so, none⟩ 32 sCap cur t (c.map v8) Try.underlying26 hsz hg (by rw [List.length_map, hn]; rfl) hr.at (by rw [List.length_map, hn]; exact hfit) (one8l c)
  rw [List.length_map, hn] at hrun
  refine ⟨_, ?_, (hg.setRow _).of_eq (by simp [splice]; rfl), ⟨rfl, rfl, rfl, by simp, fun k _ hk => setRow_other w g k _ (fun e => hk (by rw [e]))⟩⟩
  intro a o d s ho hd hs
  unfold execOp
  simp [ho, resolve, invoke, builtin, hd, hs, hrun, Result.andThen, hn]
  rfl
theorem splice_hashM (v s c : Int) (h : List UInt8) (hl : h.length = 32) : splice (manC ⟨v, s, c, List.replicate 32 0, []⟩ (.slice none 0 0)).toList 3 (h.map v8) = (manC ⟨v, s, c, h, []⟩ (.slice none 0 0)).toList := by
  unfold manC manL splice
  simp [hl]
end Go.Proofs.Ytgfcindkfnjeoaa
namespace Go.Proofs.Ytgfcindkfnjeoaa
open Go.RowKit

theorem n32_ge (x : BitVec 32) : (16777216 : Int) ≤ n32 x ↔ tooBig x = true := by unfold n32 tooBig; rw [decide_eq_true_iff]; omega
set_option maxRecDepth 100000 in
set_option maxHeartbeats 1000000 in
theorem rmright_any (m : MM) (su : Value) (w : World) (hh : m.h.length = 32) (hm : m.u.length ≤ 1000000000) (hu : Wds w su m.u) :
    Calls Try.prog 24 #[manV m su] w fun e w' => e = .returned (.bool (decide (okM m))) ∧ Below w.heap.size w w' := by
  have hB := (Below.refl w.heap.size w).alloc (Nat.le_refl _) (.cells (manC m su) 25)
  have k := Blk.new w 25 (manC m su)
  have c0 := k.cell (manC_0 m su)
  have c1 := k.cell (manC_1 m su)
  have c2 := k.cell (manC_2 m su)
  have c35 := k.cell (manC_35 m su hh)
  have hu1 := hu.below hB (Nat.le_refl _)
  have HOK : Hid (okM m ↔ numsOk m ∧ (m.u.length : Int) = countM m ∧ m.u.any tooBig = false) := okM_iff m
  have HNM : Hid (numsOk m ↔ (1 ≤ m.v ∧ m.v ≤ 1073741824) ∧ (1 ≤ m.s ∧ m.s ≤ 32768) ∧ (16 ≤ m.c ∧ m.c ≤ 1024) ∧ countM m ≤ 128) := Iff.rfl
  obtain ⟨ao, c, rfl⟩ := hu.shape
  clear hu
  unfold manV
  by_cases h1 : (1 ≤ m.v ∧ m.v ≤ 1073741824) ∧ (1 ≤ m.s ∧ m.s ≤ 32768) ∧ (16 ≤ m.c ∧ m.c ≤ 1024)
  · obtain ⟨⟨v1, v2⟩, ⟨s1, s2⟩, ⟨d1, d2⟩⟩ := h1
    have hq : (m.s + m.c - 1) / m.c = countM m := rfl
    by_cases h2 : countM m ≤ 128
    · by_cases h3 : (m.u.length : Int) = countM m
      · have HD : Hid (decide (okM m) = !(m.u.any tooBig)) := by
          show _ = _
          cases hb : m.u.any tooBig with
          | true => exact decide_eq_false (fun h => by have := (HOK.out.1 h).2.2; rw [hb] at this; cases this)
          | false => exact decide_eq_true (HOK.out.2 ⟨HNM.out.2 ⟨⟨v1, v2⟩, ⟨s1, s2⟩, ⟨d1, d2⟩, h2⟩, h3, hb⟩)
        rw [HD.out]
        have h3' : ((m.u.length : Int) != countM m) = false := by rw [h3]; simp
        have h3'' : Hid ((m.u.length : Int) = countM m) := h3
        obtain ⟨N, hN⟩ : ∃ N : Nat, countM m = (N : Int) := ⟨m.u.length, h3.symm⟩
        rw [hN] at hq h2 h3'
        have hNl : N = m.u.length := by have := h3''.out; rw [hN] at this; omega
        have HNL : Hid (N = m.u.length) := hNl
        clear HD HOK HNM h3 h3'' hNl hN
        obtain ⟨ao', c', he, hr⟩ := hu1
        cases he
        have HR : Hid (0 < m.u.length → ∃ b off, ao = some ⟨b, off, none⟩ ∧ m.u.length ≤ c ∧ WRow (w.alloc (.cells (manC m (.slice ao m.u.length c)) 25)) b off m.u ∧ b < (w.alloc (.cells (manC m (.slice ao m.u.length c)) 25)).heap.size) := hr
        clear hr
        generalize manC m (.slice ao m.u.length c) = MC at *
        generalize m.u = U at *
        generalize m.v = v at *
        generalize m.s = sz at *
        generalize m.c = ch at *
        go_enter Try.func24, Try.ntmps24
        go_wp2
        go_loop [4] (fun i => ∃ k : Nat, k ≤ N ∧ i = .int .i64 (k : Int) ∧ Hid (∀ j (h : j < U.length), j < k → tooBig U[j] = false)) (fun i => N - (intOf i).toNat)
        case atStart => exact ⟨0, Nat.zero_le _, rfl, fun j _ h => by omega⟩
        case round =>
          obtain ⟨i, hi, rfl, HS⟩ := hrel
          by_cases hlt : i < N
          · have hlu : i < U.length := by have := HNL.out; omega
            obtain ⟨b, off, rfl, hc, hrw, hb⟩ := HR.out (by omega)
            have hc1 := hrw i hlu
            obtain ⟨y, hy⟩ : ∃ y, y = U[i] := ⟨_, rfl⟩
            rw [← hy] at hc1
            have HY : Hid (y = U[i]) := hy
            have i1 : (i : Int) < (N : Int) := by omega
            have i2 : (i : Int) < (U.length : Int) := by omega
            clear hy hrw
            cases ht : tooBig y with
            | true =>
              have hge : (16777216 : Int) ≤ n32 y := (n32_ge y).2 ht
              go_wp2
              go_ret
              refine ⟨ret_bool ?_, hB⟩
              have : U.any tooBig = true := List.any_eq_true.2 ⟨U[i], List.getElem_mem hlu, by rw [← HY.out]; exact ht⟩
              rw [this]; rfl
            | false =>
              have hge : ¬ (16777216 : Int) ≤ n32 y := fun h => by rw [(n32_ge y).1 h] at ht; cases ht
              go_wp2
              go_round
              case rel => exact ⟨i + 1, hlt, by go_num, small_upto hlu HS.out (by rw [← HY.out]; exact ht)⟩
              case measure => simp [intOf]; omega
          · have i1 : ¬ (i : Int) < (N : Int) := by omega
            go_wp2
            go_ret
            refine ⟨ret_bool ?_, hB⟩
            have : U.any tooBig = false := by
              rw [List.any_eq_false]
              intro y hy
              obtain ⟨j, hj, rfl⟩ := List.getElem_of_mem hy
              rw [HS.out j hj (by have := HNL.out; omega)]; simp
            rw [this]; rfl
      · rw [decide_eq_false (fun h => h3 (HOK.out.1 h).2.1)]
        have h3' : ((m.u.length : Int) != countM m) = true := by simpa using h3
        clear HOK HNM h3 hu1
        generalize countM m = N at *
        generalize manC m (.slice ao m.u.length c) = MC at *
        generalize m.v = v at *
        generalize m.s = sz at *
        generalize m.c = ch at *
        go_enter Try.func24, Try.ntmps24
        go_wp2
        go_ret
        exact ⟨rfl, hB⟩
    · rw [decide_eq_false (fun h => h2 (HNM.out.1 (HOK.out.1 h).1).2.2.2)]
      clear HOK HNM hu1
      generalize countM m = N at *
      generalize manC m (.slice ao m.u.length c) = MC at *
      generalize m.v = v at *
      generalize m.s = sz at *
      generalize m.c = ch at *
      go_enter Try.func24, Try.ntmps24
      go_wp2
      go_ret
      exact ⟨rfl, hB⟩
  · rw [decide_eq_false (fun h => h1 ⟨(HNM.out.1 (HOK.out.1 h).1).1, (HNM.out.1 (HOK.out.1 h).1).2.1, (HNM.out.1 (HOK.out.1 h).1).2.2.1⟩)]
    clear HOK HNM hu1 c35
    generalize manC m (.slice ao m.u.length c) = MC at *
    generalize m.v = v at *
    generalize m.s = sz at *
    generalize m.c = ch at *
    have hB' := hB
    by_cases a1 : v < 1
    · go_enter Try.func24, Try.ntmps24
      go_wp2
      go_ret
      exact ⟨rfl, hB⟩
    by_cases a2 : 1073741824 < v
    · go_enter Try.func24, Try.ntmps24
      go_wp2
      go_ret
      exact ⟨rfl, hB⟩
    by_cases a3 : sz < 1
    · go_enter Try.func24, Try.ntmps24
      go_wp2
      go_ret
      exact ⟨rfl, hB⟩
    by_cases a4 : 32768 < sz
    · go_enter Try.func24, Try.ntmps24
      go_wp2
      go_ret
      exact ⟨rfl, hB⟩
    by_cases a5 : ch < 16
    · go_enter Try.func24, Try.ntmps24
      go_wp2
      go_ret
      exact ⟨rfl, hB⟩
    have a6 : 1024 < ch := by omega
    go_enter Try.func24, Try.ntmps24
    go_wp2
    go_ret
    exact ⟨rfl, hB⟩
end Go.Proofs.Ytgfcindkfnjeoaa
namespace Go.Proofs.Ytgfcindkfnjeoaa
open Go.RowKit

theorem exec_addR {a : Act} {o : Oper} {w : World} (t : TypeId) (x y : Operand) (ho : o.op = .binOp .add t x y t) (m n : Int) (hx : a.eval x = .int .i64 m) (hy : a.eval y = .int .i64 n) (h0 : -9223372036854775808 ≤ m + n) (h1 : m + n < 9223372036854775808) : (execOp a.eval o).run Try.prog w = .ok (.value (.int .i64 (m + n))) w := exec_addM t x y ho m n hx hy h0 h1
theorem exec_minR {a : Act} {o : Oper} {w : World} (t : TypeId) (t' : TypeId) (x y : Operand) (ho : o.op = .call { callee := .builtin .min, args := #[x, y], argTypes := #[t, t'] }) (m n r : Int) (hx : a.eval x = .int .i64 m) (hy : a.eval y = .int .i64 n) (h : min m n = r) : (execOp a.eval o).run Try.prog w = .ok (.value (.int .i64 r)) w := by
  subst h
  unfold execOp
  simp [ho, resolve, invoke, hx, hy, builtin, Lib.run_min_ints]
theorem exec_word {a : Act} {o : Oper} {w : World} (x : Operand) (ho : o.op = .buildSlice 23 1 #[(0, x)]) (y : BitVec 32) (hx : a.eval x = v32 y) : (execOp a.eval o).run Try.prog w = .ok (.value (.slice (some ⟨w.heap.size, 0, none⟩) 1 1)) (w.alloc (.cells #[v32 y] 74)) := by
  unfold execOp
  simp only [ho]
  simp [go_sem]
  have hx' := hx
  simp [go_sem] at hx'
  simp [hx', v32]
theorem exec_storew {a : Act} {o : Oper} {w : World} (x y : Operand) (ho : o.op = .store 23 x y) (g i : Nat) (ao : Option Addr) (n c : Nat) (hx : a.eval x = .pointer (some ⟨g, i, none⟩)) (hy : a.eval y = .slice ao n c) {u : Value} (hc : w.cell? ⟨g, i, none⟩ = some u) (hf : w.frozen? ⟨g, i, none⟩ = false) : (execOp a.eval o).run Try.prog w = .ok .skip (w.setCell ⟨g, i, none⟩ (.slice ao n c)) := by
  unfold execOp
  simp only [ho, hx, hy]
  simp [go_sem, hc, hf]
theorem built_four (v s c : Int) (h : List UInt8) (hh : h.length = 32) : Try.prog.built 25 [(0, .int .i64 v), (1, .int .i64 s), (2, .int .i64 c), (3, .agg (h.map v8).toArray)] = some (manC ⟨v, s, c, h, []⟩ (.slice none 0 0)) :=
  match h, hh with
  | [a0, a1, a2, a3, a4, a5, a6, a7, a8, a9, a10, a11, a12, a13, a14, a15, a16, a17, a18, a19, a20, a21, a22, a23, a24, a25, a26, a27, a28, a29, a30, a31], _ => by kernel_rfl
/-- How many chunks, as a natural number. -/
def cntN (n c : Nat) : Nat := (n + c - 1) / c
theorem cntN_lt (n c k : Nat) (hc : 0 < c) : k < cntN n c ↔ c * k < n := by
  unfold cntN
  have h := Nat.le_div_iff_mul_le hc (x := k + 1) (y := n + c - 1)
  rw [Nat.add_mul, Nat.mul_comm k c] at h
  omega
theorem cntN_eq (v : Int) (bs : List UInt8) (c : Nat) (hc : 0 < c) : countM (numsM v bs c) = (cntN bs.length c : Int) := by
  show ((bs.length : Int) + (c : Int) - 1) / (c : Int) = _
  unfold cntN
  rw [show (bs.length : Int) + (c : Int) - 1 = ((bs.length + c - 1 : Nat) : Int) by omega]
  simp
end Go.Proofs.Ytgfcindkfnjeoaa
