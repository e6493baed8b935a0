/-
  What is proved here: of all acts and numbers, the statement FlashErased answers true: an erased block is all ones, and no other block is changed.
  Conditions: the program's flash keeps to what is asked of it.
-/
import Derived.Test.YtjcbkimibmdggabFlashWorn
namespace Go.Proofs.Ytjcbkimibmdggab
open Go.RowKit

theorem held_pass {ops : Array Oper} {Q : Exit → Act → World → Prop} {S : World → Prop} {fuel : Nat} {listed : Array Bool} {a : Act} {w : World} (i d : Nat) (o : Oper) (hi : ops[i]? = some o) (hd : o.dst = some d)
    (hs : Region.noSelect ops = true) (hf : Region.free .any ops listed i = true) (hr : (Region.ready .any ops listed).contains i = true) (hw : Region.wanted o (yielded ops a.tmps) = false) (hS : S w)
    (h : wpAnyH Try.prog .any ops (NoPanic Q) S fuel (listed.setIfInBounds i true) (a.put (some d) undef) w) : wpAnyH Try.prog .any ops (NoPanic Q) S (fuel + 1) listed a w :=
  wpAnyH_take hi hs hf hr (fun _ _ _ h => h) (.inr ⟨hw, rfl⟩) hS (by rw [hd]; exact h)
theorem exec_quo6 {a : Act} {o : Oper} {w : World} (t : TypeId) (x y : Operand) (ho : o.op = .binOp .quo t x y t) (m n r : Int) (hx : a.eval x = .int .i64 m) (hy : a.eval y = .int .i64 n) (hn : n ≠ 0) (h : IntKind.i64.wrap (m.tdiv n) = r) : (execOp a.eval o).run Try.prog w = .ok (.value (.int .i64 r)) w := by
  subst h
  unfold execOp
  simp only [ho, hx, hy]
  simp [go_sem, Op.intDiv, hn]
theorem exec_eqi6 {a : Act} {o : Oper} {w : World} (t : TypeId) (x y : Operand) (ho : o.op = .binOp .eql t x y t) (m n : Int) (b : Bool) (hx : a.eval x = .int .i64 m) (hy : a.eval y = .int .i64 n) (h : (m == n) = b) : (execOp a.eval o).run Try.prog w = .ok (.value (.bool b)) w := by
  subst h
  unfold execOp
  simp only [ho, hx, hy]
  simp [go_sem]
theorem exec_nei6 {a : Act} {o : Oper} {w : World} (t : TypeId) (x y : Operand) (ho : o.op = .binOp .neq t x y t) (m n : Int) (b : Bool) (hx : a.eval x = .int .i64 m) (hy : a.eval y = .int .i64 n) (h : (m != n) = b) : (execOp a.eval o).run Try.prog w = .ok (.value (.bool b)) w := by
  subst h
  unfold execOp
  simp only [ho, hx, hy]
  simp [go_sem]
theorem exec_neu6 {a : Act} {o : Oper} {w : World} (t : TypeId) (x y : Operand) (ho : o.op = .binOp .neq t x y t) (m n : Int) (b : Bool) (hx : a.eval x = .int .u8 m) (hy : a.eval y = .int .u8 n) (h : (m != n) = b) : (execOp a.eval o).run Try.prog w = .ok (.value (.bool b)) w := by
  subst h
  unfold execOp
  simp only [ho, hx, hy]
  simp [go_sem]
theorem index_str6 (X : ByteArray) (I : Nat) (h : I < X.size) {Y : Int} (hY : (X[I].toNat : Int) = Y) (w : World) : (Instr.index 9 (.string X) (.int .i64 (I : Int))).run Try.prog w = .ok (.int .u8 Y) w := by
  subst hY
  rw [run_index_string w 9 X .i64 (I : Int) Try.underlying9]
  simp [h]
theorem exec_idx6 {a : Act} {o : Oper} {w : World} (x y : Operand) (ho : o.op = .index 9 x y) (u v r : Value) (hx : a.eval x = u) (hy : a.eval y = v) (h : (Instr.index 9 u v).run Try.prog w = .ok r w) : (execOp a.eval o).run Try.prog w = .ok (.value r) w := by
  unfold execOp
  simp [ho, hx, hy, h]

set_option maxRecDepth 100000 in
set_option maxHeartbeats 8000000 in
theorem flashErased_any (P : PF) (v : Value) (l : List Act6) (z : Int) (w : World) (hl : Acts6 w v l) (hz : R64 z) :
    Calls Try.prog 3 #[v, .int .i64 z] w fun e w' => e = .returned (.bool true) ∧ Below w.heap.size w w' := by
  obtain ⟨ao, c, rfl, -, -⟩ := id hl
  go_enter Try.func3, Try.ntmps3
  go_wp2_with fail
  refine (awake6_any P w).mono ?_
  rintro e w1 ⟨rfl, hB1⟩
  go_wp2_with fail
  refine (much6_any _ l w1 (hl.below hB1 (Nat.le_refl _))).mono ?_
  rintro e w2 ⟨⟨mb, rfl⟩, rfl⟩
  cases mb with
  | true =>
    go_wp2
    go_ret
    exact ⟨rfl, hB1⟩
  | false =>
    go_wp2_with fail
    refine (begun6_any P _ l w1 (hl.below hB1 (Nat.le_refl _))).mono ?_
    rintro e w3 ⟨L, rfl, hLn, hD3, hb3, hT3⟩
    have hB3 : Below w.heap.size w w3 := hB1.trans (hb3.mono hB1.size)
    have hTL : ∀ q, P.T L q → w.heap.size ≤ q := fun q h => Nat.le_trans hB1.size (hT3 q h)
    have hs := begunF_calm l
    obtain ⟨hw1, hw2⟩ := begun_worn l
    have hk : (begunF l).ok 4 := by have := P.ok hD3; rwa [hLn] at this
    generalize begunF l = s at *
    clear hb3 hT3 hB1
    have hall := readF_all hs.1 hk
    have hbl : s.b.length = 4096 := hk.b
    go_wp2_with fail
    refine (all6_any P L s w3 hD3).mono ?_
    rw [hall]
    rintro e w4 ⟨rfl, hb4⟩
    have hB4 : Below w.heap.size w w4 := hB3.trans (hb4.mono hB3.size)
    have hD4 := P.after hD3 hb4
    go_wp2_with fail
    refine (P.erase L s z w4 hD4 hz).mono ?_
    rw [eraseF_calm hs, hk.worn]
    by_cases hbad : z < 0 ∨ ((4 : Nat) : Int) ≤ z
    · rw [if_pos hbad]
      rintro e w5 ⟨rfl, hD5, hc5⟩
      have hB5 : Below w.heap.size w w5 := hB4.trans (hc5.below hTL hB4.size)
      go_wp2_with fail
      refine (all6_any P L s w5 hD5).mono ?_
      rw [hall]
      rintro e w6 ⟨rfl, hb6⟩
      generalize (⟨s.b.toArray⟩ : ByteArray) = X at *
      go_wp2
      go_ret
      exact ⟨rfl, hB5.trans (hb6.mono hB5.size)⟩
    · rw [if_neg hbad, if_neg (by have := worn_getD hw1 z.toNat; rw [hw2]; omega)]
      obtain ⟨K, rfl⟩ : ∃ K : Nat, z = (K : Int) := ⟨z.toNat, by omega⟩
      rw [Int.toNat_natCast]
      have hK : K < 4 := by omega
      have hones : ∀ i, i < 4096 → (onesL s.b (1024 * K) 1024).getD i 0 = if i / 1024 = K then 255 else s.b.getD i 0 := fun i hi => by
        rw [onesL_at _ _ _ _ (by rw [hbl]; exact hi)]
        by_cases h : i / 1024 = K
        · rw [if_pos h, if_pos (by omega)]
        · rw [if_neg h, if_neg (by omega)]
      have hbl2 : (onesL s.b (1024 * K) 1024).length = 4096 := by rw [onesL_len, hbl]
      obtain ⟨t, ht⟩ : ∃ t, t = ({ s with b := onesL s.b (1024 * K) 1024, worn := s.worn.set K (s.worn.getD K 0 + 1) } : FS) := ⟨_, rfl⟩
      rw [← ht]
      have htb : t.b = onesL s.b (1024 * K) 1024 := by rw [ht]
      have htd : t.down = false := by rw [ht]; exact hs.1
      clear ht
      rw [← htb] at hones hbl2
      rintro e w5 ⟨rfl, hD5, hc5⟩
      have hk5 : t.ok 4 := by have := P.ok hD5; rwa [hLn] at this
      have hall5 := readF_all htd hk5
      have hB5 : Below w.heap.size w w5 := hB4.trans (hc5.below hTL hB4.size)
      go_wp2_with fail
      refine (all6_any P L _ w5 hD5).mono ?_
      rw [hall5]
      rintro e w6 ⟨rfl, hb6⟩
      have hB6 : Below w.heap.size w w6 := hB5.trans (hb6.mono hB5.size)
      clear hk5 hall5 hD5 hD4 hD3 hc5 hall hk htb htd
      generalize t.b = B2 at *
      generalize s.b = B1 at *
      have hsz1 : (⟨B1.toArray⟩ : ByteArray).size = 4096 := by simp [ByteArray.size, hbl]
      have hsz2 : (⟨B2.toArray⟩ : ByteArray).size = 4096 := by simp [ByteArray.size, hbl2]
      have HX : Hid (∀ i, (h1 : i < (⟨B1.toArray⟩ : ByteArray).size) → (h2 : i < (⟨B2.toArray⟩ : ByteArray).size) → i < 4096 → (⟨B2.toArray⟩ : ByteArray)[i] = if i / 1024 = K then 255 else (⟨B1.toArray⟩ : ByteArray)[i]) := fun i h1 h2 hi => by
        rw [ba_get6, ba_get6]
        exact hones i hi
      clear hones hbl hbl2
      generalize (⟨B1.toArray⟩ : ByteArray) = X1 at *
      generalize (⟨B2.toArray⟩ : ByteArray) = X2 at *
      go_wp2_with fail
      go_loopw [11] (fun i wr => ∃ I : Nat, i = .int .i64 (I : Int) ∧ I ≤ 4096 ∧ Below w.heap.size w wr) (fun i _ => 4096 - (intOf i).toNat)
      case atStart => exact ⟨0, rfl, by omega, hB6⟩
      case round =>
        obtain ⟨I, rfl, hI, hBr⟩ := hrel
        by_cases hlt : I < 4096
        · have i1 : (I : Int) < 4096 := by omega
          by_cases hdk : I / 1024 = K
          · skip
            have hv2 : X2[I] = 255 := by rw [HX.out I (by omega) (by omega) hlt, if_pos hdk]
            have hdv : IntKind.i64.wrap ((I : Int).tdiv 1024) = (K : Int) := by rw [Int.tdiv_eq_ediv_of_nonneg (by omega), IntKind.wrap_i64]; omega
            have heq : ((K : Int) == (K : Int)) = true := by simp
            have hne : ((K : Int) != (K : Int)) = false := by simp
            have hx2 := index_str6 X2 I (by omega) (Y := 255) (by rw [hv2]; rfl)
            go_wp2_with fail
            refine held_begin (fun _ => True) (by kernel_rfl) ?_
            refine held_take 0 47 _ (.int .i64 (I : Int)) rfl rfl (by kernel_rfl) (by kernel_rfl) (by kernel_rfl) rfl trivial (fun _ _ => rfl) ?_
            simp only [Act.put, List.setIfInBounds_toArray, List.set_cons_succ, List.set_cons_zero]
            refine held_take 1 48 _ (.int .i64 (K : Int)) rfl rfl (by kernel_rfl) (by kernel_rfl) (by kernel_rfl) rfl trivial (fun _ _ => exec_quo6 _ _ _ rfl _ _ _ rfl rfl (by decide) hdv) ?_
            simp only [Act.put, List.setIfInBounds_toArray, List.set_cons_succ, List.set_cons_zero]
            refine held_take 2 49 _ (.int .i64 (K : Int)) rfl rfl (by kernel_rfl) (by kernel_rfl) (by kernel_rfl) rfl trivial (fun _ _ => rfl) ?_
            simp only [Act.put, List.setIfInBounds_toArray, List.set_cons_succ, List.set_cons_zero]
            refine held_take 3 50 _ (.bool true) rfl rfl (by kernel_rfl) (by kernel_rfl) (by kernel_rfl) rfl trivial (fun _ _ => exec_eqi6 _ _ _ rfl _ _ _ rfl rfl heq) ?_
            simp only [Act.put, List.setIfInBounds_toArray, List.set_cons_succ, List.set_cons_zero]
            refine held_take 4 51 _ (.bool true) rfl rfl (by kernel_rfl) (by kernel_rfl) (by kernel_rfl) rfl trivial (fun _ _ => rfl) ?_
            simp only [Act.put, List.setIfInBounds_toArray, List.set_cons_succ, List.set_cons_zero]
            refine held_take 5 52 _ (.string X2) rfl rfl (by kernel_rfl) (by kernel_rfl) (by kernel_rfl) rfl trivial (fun _ _ => rfl) ?_
            simp only [Act.put, List.setIfInBounds_toArray, List.set_cons_succ, List.set_cons_zero]
            refine held_take 6 53 _ (.int .i64 (I : Int)) rfl rfl (by kernel_rfl) (by kernel_rfl) (by kernel_rfl) rfl trivial (fun _ _ => rfl) ?_
            simp only [Act.put, List.setIfInBounds_toArray, List.set_cons_succ, List.set_cons_zero]
            refine held_take 7 54 _ (.int .u8 255) rfl rfl (by kernel_rfl) (by kernel_rfl) (by kernel_rfl) rfl trivial (fun _ _ => exec_idx6 _ _ rfl (.string X2) (.int .i64 (I : Int)) _ rfl rfl (hx2 _)) ?_
            simp only [Act.put, List.setIfInBounds_toArray, List.set_cons_succ, List.set_cons_zero]
            refine held_take 8 55 _ (.bool false) rfl rfl (by kernel_rfl) (by kernel_rfl) (by kernel_rfl) rfl trivial (fun _ _ => exec_neu6 _ _ _ rfl _ _ _ rfl rfl rfl) ?_
            simp only [Act.put, List.setIfInBounds_toArray, List.set_cons_succ, List.set_cons_zero]
            refine held_take 9 56 _ (.bool false) rfl rfl (by kernel_rfl) (by kernel_rfl) (by kernel_rfl) rfl trivial (fun _ _ => rfl) ?_
            simp only [Act.put, List.setIfInBounds_toArray, List.set_cons_succ, List.set_cons_zero]
            refine held_take 10 57 _ (.bool false) rfl rfl (by kernel_rfl) (by kernel_rfl) (by kernel_rfl) rfl trivial (fun _ _ => rfl) ?_
            simp only [Act.put, List.setIfInBounds_toArray, List.set_cons_succ, List.set_cons_zero]
            refine held_take 11 58 _ (.int .i64 (I : Int)) rfl rfl (by kernel_rfl) (by kernel_rfl) (by kernel_rfl) rfl trivial (fun _ _ => rfl) ?_
            simp only [Act.put, List.setIfInBounds_toArray, List.set_cons_succ, List.set_cons_zero]
            refine held_take 12 59 _ (.int .i64 (K : Int)) rfl rfl (by kernel_rfl) (by kernel_rfl) (by kernel_rfl) rfl trivial (fun _ _ => exec_quo6 _ _ _ rfl _ _ _ rfl rfl (by decide) hdv) ?_
            simp only [Act.put, List.setIfInBounds_toArray, List.set_cons_succ, List.set_cons_zero]
            refine held_take 13 60 _ (.int .i64 (K : Int)) rfl rfl (by kernel_rfl) (by kernel_rfl) (by kernel_rfl) rfl trivial (fun _ _ => rfl) ?_
            simp only [Act.put, List.setIfInBounds_toArray, List.set_cons_succ, List.set_cons_zero]
            refine held_take 14 61 _ (.bool false) rfl rfl (by kernel_rfl) (by kernel_rfl) (by kernel_rfl) rfl trivial (fun _ _ => exec_nei6 _ _ _ rfl _ _ _ rfl rfl hne) ?_
            simp only [Act.put, List.setIfInBounds_toArray, List.set_cons_succ, List.set_cons_zero]
            refine held_take 15 62 _ (.bool false) rfl rfl (by kernel_rfl) (by kernel_rfl) (by kernel_rfl) rfl trivial (fun _ _ => rfl) ?_
            simp only [Act.put, List.setIfInBounds_toArray, List.set_cons_succ, List.set_cons_zero]
            refine held_pass 16 63 _ rfl rfl (by kernel_rfl) (by kernel_rfl) (by kernel_rfl) rfl trivial ?_
            simp only [Act.put, List.setIfInBounds_toArray, List.set_cons_succ, List.set_cons_zero]
            refine held_pass 17 64 _ rfl rfl (by kernel_rfl) (by kernel_rfl) (by kernel_rfl) rfl trivial ?_
            simp only [Act.put, List.setIfInBounds_toArray, List.set_cons_succ, List.set_cons_zero]
            refine held_pass 18 65 _ rfl rfl (by kernel_rfl) (by kernel_rfl) (by kernel_rfl) rfl trivial ?_
            simp only [Act.put, List.setIfInBounds_toArray, List.set_cons_succ, List.set_cons_zero]
            refine held_pass 19 66 _ rfl rfl (by kernel_rfl) (by kernel_rfl) (by kernel_rfl) rfl trivial ?_
            simp only [Act.put, List.setIfInBounds_toArray, List.set_cons_succ, List.set_cons_zero]
            refine held_pass 20 67 _ rfl rfl (by kernel_rfl) (by kernel_rfl) (by kernel_rfl) rfl trivial ?_
            simp only [Act.put, List.setIfInBounds_toArray, List.set_cons_succ, List.set_cons_zero]
            refine held_pass 21 68 _ rfl rfl (by kernel_rfl) (by kernel_rfl) (by kernel_rfl) rfl trivial ?_
            simp only [Act.put, List.setIfInBounds_toArray, List.set_cons_succ, List.set_cons_zero]
            refine held_pass 22 69 _ rfl rfl (by kernel_rfl) (by kernel_rfl) (by kernel_rfl) rfl trivial ?_
            simp only [Act.put, List.setIfInBounds_toArray, List.set_cons_succ, List.set_cons_zero]
            refine held_take 23 70 _ (.bool false) rfl rfl (by kernel_rfl) (by kernel_rfl) (by kernel_rfl) rfl trivial (fun _ _ => rfl) ?_
            simp only [Act.put, List.setIfInBounds_toArray, List.set_cons_succ, List.set_cons_zero]
            refine held_take 24 71 _ (.bool false) rfl rfl (by kernel_rfl) (by kernel_rfl) (by kernel_rfl) rfl trivial (fun _ _ => rfl) ?_
            simp only [Act.put, List.setIfInBounds_toArray, List.set_cons_succ, List.set_cons_zero]
            refine wpAnyH_done (by kernel_rfl) ?_ _
            refine NoPanic.normal ?_
            go_wp2
            go_roundw
            case rel => exact ⟨I + 1, by go_num, hlt, hBr.drew⟩
            case measure => simp [intOf]; omega
          · skip
            have hv2 : X2[I] = X1[I] := by rw [HX.out I (by omega) (by omega) hlt, if_neg hdk]
            obtain ⟨D, hD⟩ : ∃ D, D = I / 1024 := ⟨_, rfl⟩
            have hdv : IntKind.i64.wrap ((I : Int).tdiv 1024) = (D : Int) := by rw [Int.tdiv_eq_ediv_of_nonneg (by omega), IntKind.wrap_i64]; omega
            have hDK : ¬ (D : Int) = (K : Int) := by omega
            have heq : ((D : Int) == (K : Int)) = false := by simpa using hDK
            have hne : ((D : Int) != (K : Int)) = true := by simpa using hDK
            obtain ⟨Y, hY⟩ : ∃ Y : Int, Y = (X1[I].toNat : Int) := ⟨_, rfl⟩
            have hx1 := index_str6 X1 I (by omega) hY.symm
            have hx2 := index_str6 X2 I (by omega) (Y := Y) (by rw [hv2]; exact hY.symm)
            have hyy : (Y != Y) = false := by simp
            clear hY hD hDK hdk
            go_wp2_with fail
            refine held_begin (fun _ => True) (by kernel_rfl) ?_
            refine held_take 0 47 _ (.int .i64 (I : Int)) rfl rfl (by kernel_rfl) (by kernel_rfl) (by kernel_rfl) rfl trivial (fun _ _ => rfl) ?_
            simp only [Act.put, List.setIfInBounds_toArray, List.set_cons_succ, List.set_cons_zero]
            refine held_take 1 48 _ (.int .i64 (D : Int)) rfl rfl (by kernel_rfl) (by kernel_rfl) (by kernel_rfl) rfl trivial (fun _ _ => exec_quo6 _ _ _ rfl _ _ _ rfl rfl (by decide) hdv) ?_
            simp only [Act.put, List.setIfInBounds_toArray, List.set_cons_succ, List.set_cons_zero]
            refine held_take 2 49 _ (.int .i64 (K : Int)) rfl rfl (by kernel_rfl) (by kernel_rfl) (by kernel_rfl) rfl trivial (fun _ _ => rfl) ?_
            simp only [Act.put, List.setIfInBounds_toArray, List.set_cons_succ, List.set_cons_zero]
            refine held_take 3 50 _ (.bool false) rfl rfl (by kernel_rfl) (by kernel_rfl) (by kernel_rfl) rfl trivial (fun _ _ => exec_eqi6 _ _ _ rfl _ _ _ rfl rfl heq) ?_
            simp only [Act.put, List.setIfInBounds_toArray, List.set_cons_succ, List.set_cons_zero]
            refine held_take 4 51 _ (.bool false) rfl rfl (by kernel_rfl) (by kernel_rfl) (by kernel_rfl) rfl trivial (fun _ _ => rfl) ?_
            simp only [Act.put, List.setIfInBounds_toArray, List.set_cons_succ, List.set_cons_zero]
            refine held_pass 5 52 _ rfl rfl (by kernel_rfl) (by kernel_rfl) (by kernel_rfl) rfl trivial ?_
            simp only [Act.put, List.setIfInBounds_toArray, List.set_cons_succ, List.set_cons_zero]
            refine held_pass 6 53 _ rfl rfl (by kernel_rfl) (by kernel_rfl) (by kernel_rfl) rfl trivial ?_
            simp only [Act.put, List.setIfInBounds_toArray, List.set_cons_succ, List.set_cons_zero]
            refine held_pass 7 54 _ rfl rfl (by kernel_rfl) (by kernel_rfl) (by kernel_rfl) rfl trivial ?_
            simp only [Act.put, List.setIfInBounds_toArray, List.set_cons_succ, List.set_cons_zero]
            refine held_pass 8 55 _ rfl rfl (by kernel_rfl) (by kernel_rfl) (by kernel_rfl) rfl trivial ?_
            simp only [Act.put, List.setIfInBounds_toArray, List.set_cons_succ, List.set_cons_zero]
            refine held_take 9 56 _ (.bool false) rfl rfl (by kernel_rfl) (by kernel_rfl) (by kernel_rfl) rfl trivial (fun _ _ => rfl) ?_
            simp only [Act.put, List.setIfInBounds_toArray, List.set_cons_succ, List.set_cons_zero]
            refine held_take 10 57 _ (.bool false) rfl rfl (by kernel_rfl) (by kernel_rfl) (by kernel_rfl) rfl trivial (fun _ _ => rfl) ?_
            simp only [Act.put, List.setIfInBounds_toArray, List.set_cons_succ, List.set_cons_zero]
            refine held_take 11 58 _ (.int .i64 (I : Int)) rfl rfl (by kernel_rfl) (by kernel_rfl) (by kernel_rfl) rfl trivial (fun _ _ => rfl) ?_
            simp only [Act.put, List.setIfInBounds_toArray, List.set_cons_succ, List.set_cons_zero]
            refine held_take 12 59 _ (.int .i64 (D : Int)) rfl rfl (by kernel_rfl) (by kernel_rfl) (by kernel_rfl) rfl trivial (fun _ _ => exec_quo6 _ _ _ rfl _ _ _ rfl rfl (by decide) hdv) ?_
            simp only [Act.put, List.setIfInBounds_toArray, List.set_cons_succ, List.set_cons_zero]
            refine held_take 13 60 _ (.int .i64 (K : Int)) rfl rfl (by kernel_rfl) (by kernel_rfl) (by kernel_rfl) rfl trivial (fun _ _ => rfl) ?_
            simp only [Act.put, List.setIfInBounds_toArray, List.set_cons_succ, List.set_cons_zero]
            refine held_take 14 61 _ (.bool true) rfl rfl (by kernel_rfl) (by kernel_rfl) (by kernel_rfl) rfl trivial (fun _ _ => exec_nei6 _ _ _ rfl _ _ _ rfl rfl hne) ?_
            simp only [Act.put, List.setIfInBounds_toArray, List.set_cons_succ, List.set_cons_zero]
            refine held_take 15 62 _ (.bool true) rfl rfl (by kernel_rfl) (by kernel_rfl) (by kernel_rfl) rfl trivial (fun _ _ => rfl) ?_
            simp only [Act.put, List.setIfInBounds_toArray, List.set_cons_succ, List.set_cons_zero]
            refine held_take 16 63 _ (.string X2) rfl rfl (by kernel_rfl) (by kernel_rfl) (by kernel_rfl) rfl trivial (fun _ _ => rfl) ?_
            simp only [Act.put, List.setIfInBounds_toArray, List.set_cons_succ, List.set_cons_zero]
            refine held_take 17 64 _ (.int .i64 (I : Int)) rfl rfl (by kernel_rfl) (by kernel_rfl) (by kernel_rfl) rfl trivial (fun _ _ => rfl) ?_
            simp only [Act.put, List.setIfInBounds_toArray, List.set_cons_succ, List.set_cons_zero]
            refine held_take 18 65 _ (.int .u8 Y) rfl rfl (by kernel_rfl) (by kernel_rfl) (by kernel_rfl) rfl trivial (fun _ _ => exec_idx6 _ _ rfl (.string X2) (.int .i64 (I : Int)) _ rfl rfl (hx2 _)) ?_
            simp only [Act.put, List.setIfInBounds_toArray, List.set_cons_succ, List.set_cons_zero]
            refine held_take 19 66 _ (.string X1) rfl rfl (by kernel_rfl) (by kernel_rfl) (by kernel_rfl) rfl trivial (fun _ _ => rfl) ?_
            simp only [Act.put, List.setIfInBounds_toArray, List.set_cons_succ, List.set_cons_zero]
            refine held_take 20 67 _ (.int .i64 (I : Int)) rfl rfl (by kernel_rfl) (by kernel_rfl) (by kernel_rfl) rfl trivial (fun _ _ => rfl) ?_
            simp only [Act.put, List.setIfInBounds_toArray, List.set_cons_succ, List.set_cons_zero]
            refine held_take 21 68 _ (.int .u8 Y) rfl rfl (by kernel_rfl) (by kernel_rfl) (by kernel_rfl) rfl trivial (fun _ _ => exec_idx6 _ _ rfl (.string X1) (.int .i64 (I : Int)) _ rfl rfl (hx1 _)) ?_
            simp only [Act.put, List.setIfInBounds_toArray, List.set_cons_succ, List.set_cons_zero]
            refine held_take 22 69 _ (.bool false) rfl rfl (by kernel_rfl) (by kernel_rfl) (by kernel_rfl) rfl trivial (fun _ _ => exec_neu6 _ _ _ rfl _ _ _ rfl rfl hyy) ?_
            simp only [Act.put, List.setIfInBounds_toArray, List.set_cons_succ, List.set_cons_zero]
            refine held_take 23 70 _ (.bool false) rfl rfl (by kernel_rfl) (by kernel_rfl) (by kernel_rfl) rfl trivial (fun _ _ => rfl) ?_
            simp only [Act.put, List.setIfInBounds_toArray, List.set_cons_succ, List.set_cons_zero]
            refine held_take 24 71 _ (.bool false) rfl rfl (by kernel_rfl) (by kernel_rfl) (by kernel_rfl) rfl trivial (fun _ _ => rfl) ?_
            simp only [Act.put, List.setIfInBounds_toArray, List.set_cons_succ, List.set_cons_zero]
            refine wpAnyH_done (by kernel_rfl) ?_ _
            refine NoPanic.normal ?_
            go_wp2
            go_roundw
            case rel => exact ⟨I + 1, by go_num, hlt, hBr.drew⟩
            case measure => simp [intOf]; omega
        · have i1 : ¬ (I : Int) < 4096 := by omega
          go_wp2
          go_ret
          exact ⟨rfl, hBr⟩
end Go.Proofs.Ytjcbkimibmdggab
