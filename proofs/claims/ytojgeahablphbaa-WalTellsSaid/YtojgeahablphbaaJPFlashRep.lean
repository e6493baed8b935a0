/-
  What is proved here: bytes.Repeat of one byte.
  Conditions: so many that they have room.
-/
import Derived.Test.YtojgeahablphbaaJChgWorld
import Derived.Test.YtojgeahablphbaaJBlkMid
import Derived.Test.YtojgeahablphbaaJHeldOps
import Derived.Lib.MakeNoZero
import Derived.Lib.MinMax
import Derived.Deep.Cut
import Derived.Deep.DeepCutAuto
import Derived.Laws.Bits64b
namespace Go.Proofs.Ytojgeahablphbaa
open Go.RowKit

set_option maxRecDepth 100000 in
set_option maxHeartbeats 1000000 in
theorem mul64_any (N : Nat) (hN : N < 4294967296) (w : World) :
    Calls Try.prog 62 #[.int .u64 1, .int .u64 (N : Int)] w fun e w' => e = .returned (.tuple #[.int .u64 0, .int .u64 (N : Int)]) ∧ w = w' := by
  have m1 : bits .and .u64 1 4294967295 = 1 := by have := bits_and_u64_nat 1 4294967295 (by omega) (by omega); exact this
  have m2 : bits .and .u64 (N : Int) 4294967295 = (N : Int) := by
    have h := bits_and_u64_nat N 4294967295 (by omega) (by omega)
    have e : N &&& 4294967295 = N % 4294967296 := Nat.and_two_pow_sub_one_eq_mod N 32
    rw [e, Nat.mod_eq_of_lt hN] at h
    exact h
  have m3 : (N : Int) / 4294967296 = 0 := by omega
  have m4 : bits .and .u64 0 4294967295 = 0 := by have := bits_and_u64_nat 0 4294967295 (by omega) (by omega); exact this
  have m5 : IntKind.u64.wrap (N : Int) = (N : Int) := by rw [IntKind.wrap_u64]; omega
  go_enter Try.func62, Try.ntmps62
  go_wp2
  go_ret2
  exact ⟨rfl, rfl⟩

set_option maxRecDepth 100000 in
theorem mul_any6 (N : Nat) (hN : N < 4294967296) (w : World) :
    Calls Try.prog 58 #[.int .u64 1, .int .u64 (N : Int)] w fun e w' => e = .returned (.tuple #[.int .u64 0, .int .u64 (N : Int)]) ∧ w = w' := by
  have HM : Hid (Calls Try.prog 62 #[.int .u64 1, .int .u64 (N : Int)] w fun e w' => e = .returned (.tuple #[.int .u64 0, .int .u64 (N : Int)]) ∧ w = w') := mul64_any N hN w
  go_enter Try.func58, Try.ntmps58
  go_wp2_with (go_at_call 62; refine HM.out.mono ?_; rintro e w1 ⟨rfl, rfl⟩)
  go_ret2
  exact ⟨rfl, rfl⟩
theorem exec_copy {a : Act} {o : Oper} {w w' : World} (d s : Operand) (ho : o.op = .call { callee := .builtin .copy, args := #[d, s], argTypes := #[22, 22] }) (vd vs v : Value) (hd : a.eval d = vd) (hs : a.eval s = vs) (hr : ∀ ty, (Builtin.copy_ #[22, 22] ty #[vd, vs]).run Try.prog w = .ok v w') : (execOp a.eval o).run Try.prog w = .ok (.value v) w' := by
  unfold execOp
  simp [ho, resolve, invoke, builtin, hd, hs, hr, Result.andThen]
theorem exec_addi {a : Act} {o : Oper} {w : World} (t : TypeId) (x y : Operand) (ho : o.op = .binOp .add t x y t) (m n r : Int) (hx : a.eval x = .int .i64 m) (hy : a.eval y = .int .i64 n) (h : IntKind.i64.wrap (m + n) = r) : (execOp a.eval o).run Try.prog w = .ok (.value (.int .i64 r)) w := by
  unfold execOp
  simp [ho, hx, hy]
  rw [← h]
  rfl
theorem exec_slice {a : Act} {o : Oper} {w : World} (x : Operand) (l h m : Option Operand) (ho : o.op = .slice 22 x l h m) (u r : Value) (lv hv mv : Option Value) (hx : a.eval x = u) (hl : l.map a.eval = lv) (hh : h.map a.eval = hv) (hm : m.map a.eval = mv) (hr : (Instr.slice 22 u lv hv mv).run Try.prog w = .ok r w) : (execOp a.eval o).run Try.prog w = .ok (.value r) w := by
  subst hl; subst hh; subst hm
  unfold execOp
  simp [ho, hx, hr, Instr.sliceAt, run_underlying Try.underlying22]
/-- A block whose first cells are such a byte. -/
def Ones (w : World) (g q : Nat) (c : UInt8) (size : Nat) : Prop := ∃ arr, Blk w g 5 arr ∧ arr.size = size ∧ ∀ j, j < q → arr[j]? = some (v8 c)
theorem ones_more {w : World} {g q K size : Nat} {c : UInt8} {arr : Array Value} (h : w.heap[g]? = some (.cells (splice arr.toList q (List.replicate K (v8 c))).toArray 5 (0, 0))) (hs : arr.size = size) (ha : ∀ j, j < q → arr[j]? = some (v8 c)) (hK : q + K ≤ size) : Ones w g (q + K) c size := by
  refine ⟨_, h, ?_, fun j hj => ?_⟩
  · unfold splice
    simp
    omega
  · unfold splice
    rw [List.getElem?_toArray]
    by_cases h1 : j < q
    · rw [List.getElem?_append_left (by simp; omega), List.getElem?_take_of_lt h1, Array.getElem?_toList]
      exact ha j h1
    · rw [List.getElem?_append_right (by simp; omega), List.getElem?_append_left (by simp; omega), List.getElem?_replicate, if_pos (by simp; omega)]
theorem slice_roomD (ao : Option Addr) (len c n : Nat) (h : n ≤ c) (w : World) : (Instr.slice 22 (.slice ao len c) none (some (.int .i64 (n : Int))) (some (.int .i64 (n : Int)))).run Try.prog w = .ok (.slice ao n n) w := by
  rw [run_slice_hm w 22 ao len c (by rw [elem_bytesD]; exact Try.underlying22) .i64 .i64 n n (by omega) (by omega) (by omega), elem_bytesD, size_byteD]
  simp only [Result.andThen_ok, sliced, Int.toNat_natCast, Nat.zero_mul, add_zero_addrD, Nat.sub_zero, ite_self]
set_option maxRecDepth 100000 in
set_option maxHeartbeats 4000000 in
theorem repeat_any (N : Nat) (h1 : 1 ≤ N) (h2 : N ≤ 1000000) (b cb : Nat) (c : UInt8) (w : World) (hb : Blk w b 5 #[v8 c]) :
    Calls Try.prog 56 #[.slice (some ⟨b, 0, none⟩) 1 cb, .int .i64 (N : Int)] w fun e w' => ∃ size, e = .returned (.slice (some ⟨w.heap.size, 0, none⟩) N N) ∧ N ≤ size ∧ Ones w' w.heap.size N c size ∧ Below w.heap.size w w' := by
  have HM : Hid (Calls Try.prog 58 #[.int .u64 1, .int .u64 (N : Int)] w fun e w' => e = .returned (.tuple #[.int .u64 0, .int .u64 (N : Int)]) ∧ w = w') := mul_any6 N (by omega) w
  have a1 : ((N : Int) == 0) = false := by simp; omega
  have a2 : ¬ (N : Int) < 0 := by omega
  have a3 : ¬ (9223372036854775807 : Int) < (N : Int) := by omega
  obtain ⟨cs, hrunM, hle, -⟩ := Lib.run_makeNoZero (P := Try.prog) w #[3] 22 5 Try.underlying22 N (by omega)
  have hcall : (callFunc 59 #[.int .i64 (N : Int)]).run Try.prog w = .ok (.value (.slice (some ⟨w.heap.size, 0, none⟩) N cs.size)) ((w.alloc (.cells cs 5)).drewN 2) := by
    rw [run_callFunc_extern Try.func59 (by kernel_rfl) (by kernel_rfl) (by kernel_rfl) (e := Extern.BytealgMakeNoZero.makeNoZero #[3] #[22]) (by kernel_rfl), hrunM]
    rfl
  clear hrunM
  have hsl := slice_roomD (some ⟨w.heap.size, 0, none⟩) N cs.size N hle
  go_enter Try.func56, Try.ntmps56
  go_upto_if 42 with (go_at_call 58; refine HM.out.mono ?_; rintro e w1 ⟨rfl, rfl⟩)
  go_cut [8] (fun s8 wx => w = wx ∧ ∃ CM : Nat, 1 ≤ CM ∧ CM ≤ 1000000 ∧ s8 = .int .i64 (CM : Int))
  case first =>
    go_wp2
    · go_meet
      exact ⟨rfl, 8192, by omega, by omega, rfl⟩
    · go_meet
      exact ⟨rfl, N, h1, h2, rfl⟩
  case rest =>
    obtain ⟨rfl, CM, hCM1, hCM2, rfl⟩ := hcut
    have hg0 : Blk ((w.alloc (.cells cs 5)).drewN 2) w.heap.size 5 cs := (Blk.new w 5 cs).drewN 2
    have hB0 : Below w.heap.size w ((w.alloc (.cells cs 5)).drewN 2) := Below.drewN ((Below.refl _ w).alloc (Nat.le_refl _) _) 2
    have hb0 := hb.below hB0 hb.lt
    have H1 : ∀ j v, [v8 c][j]? = some v → ((w.alloc (.cells cs 5)).drewN 2).cell? ((⟨b, 0, none⟩ : Addr).add j) = some v := fun j v hv => by rw [Addr.add_mid, Nat.zero_add]; exact hb0.cell (by simpa using hv)
    have hsz1 : (Try.prog.info? 5).map (·.size) = some 1 := by kernel_rfl
    go_wp2_with (refine wpList_copy_splice rfl (.tmp 58) (.tmp 59) 22 22 rfl 5 Try.underlying22 hsz1 (some ⟨w.heap.size, 0, none⟩) (some ⟨b, 0, none⟩) N N 1 cb rfl rfl w.heap.size 0 cs.toList 5 hg0 [v8 c] (by show 1 = Nat.min 1 N; exact (Nat.min_eq_left h1).symm) (fun _ => ⟨rfl, _, rfl, H1⟩) (by simp; omega) (one8l [c]) w.heap.size w hB0 (Nat.le_refl _) ?_; intro w2 hb2 hB2)
    have hO2 : Ones w2 w.heap.size (0 + 1) c cs.size := ones_more (K := 1) hb2.out rfl (fun j hj => by omega) (by omega)
    clear hb2 hg0 hB0 hb0
    go_loopw [10] (fun i wr => ∃ q : Nat, i = .int .i64 (q : Int) ∧ 1 ≤ q ∧ q ≤ N ∧ Ones wr w.heap.size q c cs.size ∧ Below w.heap.size w wr) (fun i _ => N - (intOf i).toNat)
    case atStart => exact ⟨1, rfl, by omega, h1, hO2, hB2⟩
    case round =>
      obtain ⟨q, rfl, hq1, hq2, hO, hB⟩ := hrel
      clear hO2 hB2
      by_cases hlt : q < N
      · have i1 : (q : Int) < (N : Int) := by omega
        obtain ⟨CH, hCH⟩ : ∃ CH, CH = min q CM := ⟨_, rfl⟩
        have hmin : min (q : Int) (CM : Int) = (CH : Int) := by omega
        have hc1 : 1 ≤ CH := by omega
        have hc2 : CH ≤ q := by omega
        clear hCH
        have l1 := slice_restD (some ⟨w.heap.size, 0, none⟩) N N q hq2
        rw [show restD (some ⟨w.heap.size, 0, none⟩) N q = some ⟨w.heap.size, q, none⟩ by unfold restD; rw [if_neg (by omega), Option.map_some, Addr.add_mid, Nat.mul_one, Nat.zero_add]] at l1
        have l2 := slice_toD (some ⟨w.heap.size, 0, none⟩) N N CH (by omega)
        obtain ⟨arr, hg, hsz, hall⟩ := hO
        obtain ⟨K, hK⟩ : ∃ K, K = Nat.min CH (N - q) := ⟨_, rfl⟩
        have hK1 : 1 ≤ K := by rw [hK]; exact Nat.le_min.2 ⟨hc1, by omega⟩
        have hK2 : K ≤ CH := by rw [hK]; exact Nat.min_le_left _ _
        have hK3 : q + K ≤ N := by have : K ≤ N - q := by rw [hK]; exact Nat.min_le_right _ _
                                   omega
        obtain ⟨w2, hr2, hb2, hB2⟩ : ∃ w2, (∀ ty, (Builtin.copy_ #[22, 22] ty #[.slice (some ⟨w.heap.size, q, none⟩) (N - q) (N - q), .slice (some ⟨w.heap.size, 0, none⟩) CH N]).run Try.prog wr.drew = .ok (.int .i64 (K : Int)) w2) ∧ w2.heap[w.heap.size]? = some (.cells (splice arr.toList q (List.replicate K (v8 c))).toArray 5 (0, 0)) ∧ Below w.heap.size w w2 := by
          have H2 : ∀ j v, (List.replicate K (v8 c))[j]? = some v → wr.drew.cell? ((⟨w.heap.size, 0, none⟩ : Addr).add j) = some v := fun j v hv => by
            rw [Addr.add_mid, Nat.zero_add]
            rw [List.getElem?_replicate] at hv
            split at hv
            · cases hv
              exact hg.drew.cell (hall j (by omega))
            · cases hv
          have hr := fun ty => run_copy_row (P := Try.prog) wr.drew 22 22 ty 5 w.heap.size q (N - q) (N - q) ⟨w.heap.size, 0, none⟩ CH N arr 5 (List.replicate K (v8 c)) Try.underlying22 hsz1 hg.drew (by rw [List.length_replicate, hK]) H2 (by rw [List.length_replicate, hsz]; omega) (fun v hv => by rw [List.eq_of_mem_replicate hv]; rfl)
          rw [List.length_replicate] at hr
          refine ⟨_, hr, ?_, Below.setRow hB.drew _ _ (Nat.le_refl _)⟩
          exact (hg.drew.setRow _).of_eq (by simp [splice])
        have hwr : IntKind.i64.wrap ((q : Int) + (K : Int)) = ((q + K : Nat) : Int) := by rw [IntKind.wrap_i64]; omega
        go_wp2_with fail
        refine held_begin (fun _ => True) (by kernel_rfl) ?_
        refine held_take 0 67 _ (.int .i64 (q : Int)) rfl rfl (by kernel_rfl) (by kernel_rfl) (by kernel_rfl) rfl trivial (fun _ _ => rfl) ?_
        simp only [Act.put, List.setIfInBounds_toArray, List.set_cons_succ, List.set_cons_zero]
        refine held_take 1 68 _ (.slice (some ⟨w.heap.size, 0, none⟩) N N) rfl rfl (by kernel_rfl) (by kernel_rfl) (by kernel_rfl) rfl trivial (fun _ _ => rfl) ?_
        simp only [Act.put, List.setIfInBounds_toArray, List.set_cons_succ, List.set_cons_zero]
        refine held_take 2 69 _ (.int .i64 (q : Int)) rfl rfl (by kernel_rfl) (by kernel_rfl) (by kernel_rfl) rfl trivial (fun _ _ => rfl) ?_
        simp only [Act.put, List.setIfInBounds_toArray, List.set_cons_succ, List.set_cons_zero]
        refine held_take 3 70 _ (.slice (some ⟨w.heap.size, q, none⟩) (N - q) (N - q)) rfl rfl (by kernel_rfl) (by kernel_rfl) (by kernel_rfl) rfl trivial (fun W _ => exec_slice _ _ _ _ rfl (.slice (some ⟨w.heap.size, 0, none⟩) N N) _ (some (.int .i64 (q : Int))) none none rfl rfl rfl rfl (l1 W)) ?_
        simp only [Act.put, List.setIfInBounds_toArray, List.set_cons_succ, List.set_cons_zero]
        refine held_take 4 71 _ (.slice (some ⟨w.heap.size, 0, none⟩) N N) rfl rfl (by kernel_rfl) (by kernel_rfl) (by kernel_rfl) rfl trivial (fun _ _ => rfl) ?_
        simp only [Act.put, List.setIfInBounds_toArray, List.set_cons_succ, List.set_cons_zero]
        refine held_take 5 72 _ (.int .i64 (CH : Int)) rfl rfl (by kernel_rfl) (by kernel_rfl) (by kernel_rfl) rfl trivial (fun _ _ => rfl) ?_
        simp only [Act.put, List.setIfInBounds_toArray, List.set_cons_succ, List.set_cons_zero]
        refine held_take 6 73 _ (.slice (some ⟨w.heap.size, 0, none⟩) CH N) rfl rfl (by kernel_rfl) (by kernel_rfl) (by kernel_rfl) rfl trivial (fun W _ => exec_slice _ _ _ _ rfl (.slice (some ⟨w.heap.size, 0, none⟩) N N) _ none (some (.int .i64 (CH : Int))) none rfl rfl rfl rfl (l2 W)) ?_
        simp only [Act.put, List.setIfInBounds_toArray, List.set_cons_succ, List.set_cons_zero]
        refine held_all1 7 (by kernel_rfl) (op_value 7 74 _ (.int .i64 (K : Int)) w2 rfl rfl rfl (exec_copy _ _ rfl (.slice (some ⟨w.heap.size, q, none⟩) (N - q) (N - q)) (.slice (some ⟨w.heap.size, 0, none⟩) CH N) _ rfl rfl hr2) ⟨trivial, ?_⟩)
        simp only [Act.put, List.setIfInBounds_toArray, List.set_cons_succ, List.set_cons_zero]
        refine held_all1 8 (by kernel_rfl) (op_value 8 75 _ (.int .i64 ((q + K : Nat) : Int)) w2 rfl rfl rfl (exec_addi _ _ _ rfl _ _ _ rfl rfl hwr) ⟨trivial, ?_⟩)
        simp only [Act.put, List.setIfInBounds_toArray, List.set_cons_succ, List.set_cons_zero]
        refine held_all1 9 (by kernel_rfl) (op_value 9 10 _ (.int .i64 ((q + K : Nat) : Int)) w2 rfl rfl rfl rfl ⟨trivial, ?_⟩)
        simp only [Act.put, List.setIfInBounds_toArray, List.set_cons_succ, List.set_cons_zero]
        refine wpAnyH_done (by kernel_rfl) ?_ _
        refine NoPanic.normal ?_
        go_wp2
        go_roundw
        case rel => exact ⟨q + K, rfl, by omega, hK3, ones_more hb2 hsz hall (by omega), hB2⟩
        case measure => simp [intOf]; omega
      · have i1 : ¬ (q : Int) < (N : Int) := by omega
        obtain rfl : q = N := by omega
        go_wp2
        go_ret
        exact ⟨rfl, cs.size, hle, hO, hB⟩
end Go.Proofs.Ytojgeahablphbaa
