/-
  What is proved here: the statement WaveLess is true of any devices and any place.
  Conditions: they lie in memory; the variable fourBits holds the sixteen words.
-/
import Derived.Test.YtnagdgkkkkpekabDoorWaveAwake
import Derived.Test.YtnagdgkkkkpekabDoorWaveSame
import Derived.Test.YtnagdgkkkkpekabDoorWaveLawP
import Derived.Test.YtnagdgkkkkpekabDoorHeldOps
namespace Go.Proofs.YtnagdgkkkkpekabDoor
open Go.RowKit

theorem add_zero_addrL (ao : Option Addr) : ao.map (·.add 0) = ao := by
  cases ao with
  | none => rfl
  | some a => obtain ⟨b, o, s⟩ := a; simp [Addr.add]
theorem slice_toL (ao : Option Addr) (len c n : Nat) (h : n ≤ c) (w : World) : (Instr.slice 22 (.slice ao len c) none (some (.int .i64 (n : Int))) none).run Tryd.prog w = .ok (.slice ao n c) w := by
  rw [run_slice_h w 22 ao len c (by rw [elem_intsW]; exact Tryd.underlying22) .i64 n (by omega) (by omega), elem_intsW, size_intW]
  simp only [Result.andThen_ok, sliced, Int.toNat_natCast, Nat.zero_mul, add_zero_addrL, Nat.sub_zero, ite_self]
theorem slice_restL (ao : Option Addr) (len c lo : Nat) (h : lo ≤ len) (w : World) : (Instr.slice 22 (.slice ao len c) (some (.int .i64 (lo : Int))) none none).run Tryd.prog w = .ok (.slice (restD ao c lo) (len - lo) (c - lo)) w := by
  rw [run_slice_l w 22 ao len c (by rw [elem_intsW]; exact Tryd.underlying22) .i64 lo (by omega) (by omega), elem_intsW, size_intW]
  simp only [Result.andThen_ok, sliced, Int.toNat_natCast, restD]
theorem IntsI.takesL {w : World} {ao : Option Addr} {len c : Nat} {zs : List Int} (h : IntsI w (.slice ao len c) zs) (n : Nat) (hn : n ≤ len) : IntsI w (.slice ao n c) (zs.take n) := by
  obtain ⟨ao', c', e, h2, h3, h3', h4⟩ := h
  cases e
  have hl : (zs.take n).length = n := by simp; omega
  refine ⟨ao, c, by rw [hl], by rw [hl]; omega, by rw [hl]; omega, h3', fun j z hz => ?_⟩
  have hj : j < n := by have := (List.getElem?_eq_some_iff.1 hz).1; omega
  rw [List.getElem?_take_of_lt hj] at hz
  exact h4 j z hz
theorem IntsI.dropsL {w : World} {ao : Option Addr} {len c : Nat} {zs : List Int} (h : IntsI w (.slice ao len c) zs) (n : Nat) (hn : n ≤ len) : IntsI w (.slice (restD ao c n) (len - n) (c - n)) (zs.drop n) := by
  have := h.mid n (len - n) (by omega)
  obtain ⟨_, _, e, _⟩ := h
  cases e
  rwa [List.take_of_length_le (by simp)] at this
theorem exec_sliceI {a : Act} {o : Oper} {w : World} (x : Operand) (l h m : Option Operand) (ho : o.op = .slice 22 x l h m) (u r : Value) (lv hv mv : Option Value) (hx : a.eval x = u) (hl : l.map a.eval = lv) (hh : h.map a.eval = hv) (hm : m.map a.eval = mv) (hr : (Instr.slice 22 u lv hv mv).run Tryd.prog w = .ok r w) : (execOp a.eval o).run Tryd.prog w = .ok (.value r) w := by
  subst hl; subst hh; subst hm
  unfold execOp
  simp [ho, hx, hr, Instr.sliceAt, run_underlying Tryd.underlying22]
theorem exec_addI {a : Act} {o : Oper} {w : World} (t : TypeId) (x y : Operand) (ho : o.op = .binOp .add t x y t) (m n : Int) (hx : a.eval x = .int .i64 m) (hy : a.eval y = .int .i64 n) (h0 : -9223372036854775808 ≤ m + n) (h1 : m + n < 9223372036854775808) : (execOp a.eval o).run Tryd.prog w = .ok (.value (.int .i64 (m + n))) w := by
  have hw : IntKind.i64.wrap (m + n) = m + n := by rw [IntKind.wrap_i64]; omega
  unfold execOp
  simp [ho, hx, hy]
  rw [← hw]
  rfl
theorem exec_emptyI {a : Act} {o : Oper} {w : World} (ho : o.op = .buildSlice 22 0 #[]) : (execOp a.eval o).run Tryd.prog w = .ok (.value (.slice (some ⟨w.heap.size, 0, none⟩) 0 0)) (w.alloc (.cells #[] 3)) := by
  unfold execOp
  simp only [ho]
  simp [go_sem]
/-- What append of ints does to a slice of the call's own. -/
theorem app_intsX (w : World) (base : Nat) (v : Value) (l : List Int) (hown : OwnZ w base v l) (xv : Value) (nw : List Int) (hI : IntsI w xv nw) (hlen : l.length + nw.length ≤ 1000000000) (hbase : base ≤ w.heap.size) :
    ∃ v' w', (∀ ty, (Builtin.append_ #[22, 22] ty #[v, xv]).run Tryd.prog w = .ok v' w') ∧ OwnZ w' base v' (l ++ nw) ∧ w.grownBy w' v.ownBlock := by
  obtain ⟨i0, hi, hz0, hz1, hz2⟩ := parts_int
  have key : ∀ ad c m, xv = .slice (some ad) m c → m = nw.length → (∀ (j : Nat) u, (nw.map vI)[j]? = some u → w.cell? (ad.add j) = some u) → ∃ v' w', (∀ ty, (Builtin.append_ #[22, 22] ty #[v, xv]).run Tryd.prog w = .ok v' w') ∧ OwnZ w' base v' (l ++ nw) ∧ w.grownBy w' v.ownBlock := by
    intro ad c m hxv hm hc
    subst hm
    subst hxv
    obtain ⟨v', w', h0, h1, h2, _, h4⟩ := run_append_own_at (P := Tryd.prog) w base 22 22 3 i0 (.int .i64 0) 1 8 Tryd.underlying22 hi hz0 hz1 hz2 rfl (by decide) v l.length (l.map vI) hown ad nw.length c (nw.map vI) (by simp) hc (one_ints nw) (by unfold maxLen; omega) (by omega) hbase
    refine ⟨v', w', fun ty => h0, ?_, h2⟩
    unfold OwnZ; rw [List.length_append, List.map_append]; exact h1
  obtain ⟨ao, c, rfl, h2, h3, h3', h4⟩ := hI
  cases ao with
  | none =>
    have hn : nw = [] := by
      cases nw with
      | nil => rfl
      | cons z l => obtain ⟨b, off, e, _⟩ := h4 0 z rfl; cases e
    subst hn
    obtain rfl := h3' rfl
    exact ⟨v, w, fun ty => run_append_owned_none (P := Tryd.prog) (w := w) base 22 ty 3 i0 1 Tryd.underlying22 hi v l.length (l.map vI) hown, by rw [List.append_nil]; exact hown, ⟨rfl, rfl, rfl, Nat.le_refl _, fun _ _ _ => rfl⟩⟩
  | some ad =>
    refine key ad c _ rfl rfl (fun j u hu => ?_)
    rw [List.getElem?_map] at hu
    obtain ⟨z, hz, rfl⟩ := Option.map_eq_some_iff.1 hu
    obtain ⟨b, off, e, _, hc⟩ := h4 j z hz
    cases e
    rw [Addr.add_mid]
    exact hc
set_option maxRecDepth 100000 in
set_option maxHeartbeats 8000000 in
theorem waveLess_any (c at_ : Int) (x : Value) (ds : List Int) (w : World) (hx : IntsI w x ds) (hgf : 0 < w.heap.size) (hf : Tab w 0 (fours.map v32)) :
    Calls Tryd.prog 3 #[.int .i64 c, x, .int .i64 at_] w fun e w' => e = .returned (.bool true) ∧ Below w.heap.size w w' := by
  have HX : Hid (IntsI w x ds) := hx
  have HF : Hid (0 < w.heap.size ∧ Tab w 0 (fours.map v32)) := ⟨hgf, hf⟩
  have HR : Hid (0 < ds.length → ∃ b off c, x = .slice (some ⟨b, off, none⟩) ds.length c ∧ ds.length ≤ c ∧ b < w.heap.size ∧ ∀ (j : Nat) z, ds[j]? = some z → w.cell? ⟨b, off + j, none⟩ = some (vI z)) := fun h => hx.form h
  obtain ⟨ax, cx, rfl⟩ := hx.shape
  clear hx hgf hf
  go_enter Tryd.func3, Tryd.ntmps3
  go_wp2_with fail
  refine (awake15_any w HF.out.1 HF.out.2).mono ?_
  rintro e w1 ⟨rfl, hB1⟩
  by_cases h0 : ds.length = 0
  · have D : ((ds.length : Int) == 0) = true := by simp; exact List.eq_nil_of_length_eq_zero h0
    clear h0
    go_wp2
    go_ret
    exact ⟨rfl, hB1⟩
  have D : ((ds.length : Int) == 0) = false := by simp; intro e; exact h0 (by rw [e]; rfl)
  by_cases hd : 300 < ds.length
  · have D1 : decide ((300 : Int) < (ds.length : Int)) = true := decide_eq_true (by omega)
    clear hd h0
    go_wp2
    go_ret
    exact ⟨rfl, hB1⟩
  have D1 : decide ((300 : Int) < (ds.length : Int)) = false := decide_eq_false (by omega)
  by_cases ha : at_ < 0
  · have D2 : decide (at_ < 0) = true := decide_eq_true ha
    clear hd h0 ha
    go_wp2
    go_ret
    exact ⟨rfl, hB1⟩
  have D2 : decide (at_ < 0) = false := decide_eq_false ha
  have HL : Hid (0 < ds.length ∧ ds.length ≤ 300) := ⟨by omega, by omega⟩
  have hA1 : Below w1.heap.size w1 (w1.alloc (.cells #[vI 100] 3)) := (Below.refl _ _).alloc (Nat.le_refl _) _
  have HZ : Hid (Calls Tryd.prog 5 #[.int .i64 c, .slice ax ds.length cx, .slice (some ⟨w1.heap.size, 0, none⟩) 1 1] (w1.alloc (.cells #[vI 100] 3)) fun e w' => ∃ v, e = .returned (.tuple #[v, .int .i64 (planW c ds [100]).2]) ∧ PlanZ w' w1.heap.size v (planW c ds [100]).1 ∧ Below w1.heap.size w1 w') := by
    have hb := hB1.trans (hA1.mono hB1.size)
    refine (plan_any15 c _ _ ds [100] _ (Nat.lt_of_lt_of_le HF.out.1 hb.size) (HF.out.2.below hb HF.out.1) (HX.out.below hb (Nat.le_refl _)) (ints_new w1 [100] 3 _ rfl (by unfold maxLen; simp)) (by have := HL.out; omega)).mono ?_
    rintro e w' ⟨v, rfl, h1, h2⟩
    exact ⟨v, rfl, h1.mono hA1.size, hA1.trans (h2.mono hA1.size)⟩
  clear h0 hd hA1
  go_wp2_with fail
  refine HZ.out.mono ?_
  rintro e W1 ⟨v1, rfl, hp1, hb1⟩
  have hB2 : Below w.heap.size w W1 := hB1.trans (hb1.mono hB1.size)
  have HP1 : Hid (PlanZ W1 w1.heap.size v1 (planW c ds [100]).1) := hp1
  clear hp1 hb1 D D1 D2 HZ hB1
  by_cases hc : (planW c ds [100]).2 = 0
  · rw [hc]
    obtain ⟨A, rfl⟩ := Int.eq_ofNat_of_zero_le (show 0 ≤ at_ by omega)
    have HPO : Hid ((planW c ds [100]).1 = [sortW c ds]) := plan_one hc
    have HPC : Hid ((planW c ds [100]).2 = 0) := hc
    have hz1 : ¬ (ds.length : Int) = 0 := by have := HL.out; omega
    have hz2 : ¬ ds.length = 0 := by have := HL.out; omega
    obtain ⟨K, hK⟩ : ∃ K, K = A % ds.length := ⟨_, rfl⟩
    have hKl : K < ds.length := by rw [hK]; exact Nat.mod_lt _ HL.out.1
    have HREM : Hid ((A : Int) % (ds.length : Int) = (K : Int)) := by show _ = _; rw [hK]; rfl
    have hCX : ds.length ≤ cx := by obtain ⟨_, _, e, h, _⟩ := HX.out; cases e; exact h
    have hI1 : IntsI W1 (.slice ax ds.length cx) ds := HX.out.below hB2 (Nat.le_refl _)
    have HIT : Hid (IntsI W1 (.slice ax K cx) (ds.take K)) := hI1.takesL K (by omega)
    have HIR : Hid (IntsI W1 (.slice (restD ax cx (K + 1)) (ds.length - (K + 1)) (cx - (K + 1))) (ds.drop (K + 1))) := hI1.dropsL (K + 1) (by omega)
    have HKL : Hid (K < ds.length ∧ ds.length ≤ 300 ∧ ds.length ≤ cx) := ⟨hKl, HL.out.2, hCX⟩
    have HPE : Hid (planW c (ds.take K ++ ds.drop (K + 1)) [100] = ([(sortW c ds).filter (fun x => decide (x ≠ ds[K]))], 0)) := plan_less K hKl HPC.out
    have HDK : Hid (ds[K]? = some ds[K]) := List.getElem?_eq_getElem hKl
    obtain ⟨D, hD⟩ : ∃ D, D = ds[K] := ⟨_, rfl⟩
    rw [← hD] at HPE HDK
    clear hK hKl hCX hI1 hD
    go_wp2_with fail
    rw [HREM.out]
    clear hz1 hz2
    refine held_begin (fun _ => True) (by kernel_rfl) ?_
    refine held_take 1 54 _ (.slice ax ds.length cx) rfl rfl (by kernel_rfl) (by kernel_rfl) (by kernel_rfl) rfl trivial (fun _ _ => rfl) ?_
    simp only [Act.put, List.setIfInBounds_toArray, List.set_cons_succ, List.set_cons_zero]
    refine held_take 2 55 _ (.int .i64 (K : Int)) rfl rfl (by kernel_rfl) (by kernel_rfl) (by kernel_rfl) rfl trivial (fun _ _ => rfl) ?_
    simp only [Act.put, List.setIfInBounds_toArray, List.set_cons_succ, List.set_cons_zero]
    refine held_take 3 56 _ (.slice ax K cx) rfl rfl (by kernel_rfl) (by kernel_rfl) (by kernel_rfl) rfl trivial (fun V _ => exec_sliceI _ none (some _) none rfl (.slice ax ds.length cx) _ none (some (.int .i64 (K : Int))) none rfl rfl rfl rfl (slice_toL ax ds.length cx K (by have := HKL.out; omega) V)) ?_
    simp only [Act.put, List.setIfInBounds_toArray, List.set_cons_succ, List.set_cons_zero]
    refine held_take 5 58 _ (.slice ax ds.length cx) rfl rfl (by kernel_rfl) (by kernel_rfl) (by kernel_rfl) rfl trivial (fun _ _ => rfl) ?_
    simp only [Act.put, List.setIfInBounds_toArray, List.set_cons_succ, List.set_cons_zero]
    refine held_take 6 59 _ (.int .i64 (K : Int)) rfl rfl (by kernel_rfl) (by kernel_rfl) (by kernel_rfl) rfl trivial (fun _ _ => rfl) ?_
    simp only [Act.put, List.setIfInBounds_toArray, List.set_cons_succ, List.set_cons_zero]
    refine held_take 7 60 _ (.int .i64 ((K : Int) + 1)) rfl rfl (by kernel_rfl) (by kernel_rfl) (by kernel_rfl) rfl trivial (fun V _ => exec_addI _ _ _ rfl (K : Int) 1 rfl rfl (by omega) (by have := HKL.out; omega)) ?_
    simp only [Act.put, List.setIfInBounds_toArray, List.set_cons_succ, List.set_cons_zero]
    refine held_take 8 61 _ (.slice (restD ax cx (K + 1)) (ds.length - (K + 1)) (cx - (K + 1))) rfl rfl (by kernel_rfl) (by kernel_rfl) (by kernel_rfl) rfl trivial (fun V _ => exec_sliceI _ (some _) none none rfl (.slice ax ds.length cx) _ (some (.int .i64 ((K : Int) + 1))) none none rfl rfl rfl rfl (slice_restL ax ds.length cx (K + 1) (by have := HKL.out; omega) V)) ?_
    simp only [Act.put, List.setIfInBounds_toArray, List.set_cons_succ, List.set_cons_zero]
    obtain ⟨WD, hWD⟩ : ∃ WD, WD = W1.drew := ⟨_, rfl⟩
    have hBD : Below W1.heap.size W1 WD := by rw [hWD]; exact Below.drewN (Below.refl _ W1) 1
    rw [← hWD]
    clear hWD
    have hO7 : OwnZ (WD.alloc (.cells #[] 3)) WD.heap.size (.slice (some ⟨WD.heap.size, 0, none⟩) 0 0) [] := empty_ints _ _ _ rfl (Nat.le_refl _)
    have hb7 := (Below.refl WD.heap.size WD).alloc (Nat.le_refl _) (.cells #[] 3)
    refine held_all1 0 (by kernel_rfl) (op_value 0 53 _ (.slice (some ⟨WD.heap.size, 0, none⟩) 0 0) _ rfl rfl rfl (exec_emptyI rfl) ⟨trivial, ?_⟩)
    simp only [Act.put, List.setIfInBounds_toArray, List.set_cons_succ, List.set_cons_zero]
    obtain ⟨v8', w8, hr8, hO8, hg8⟩ := app_intsX _ WD.heap.size _ _ hO7 (.slice ax K cx) _ ((HIT.out.below hBD (Nat.le_refl _)).below hb7 (Nat.le_refl _)) (by have := HKL.out; simp; omega) hb7.size
    have hb8 := below_grown hb7 hg8 hb7.size (fun q hq => (hO7.blocks q hq).1)
    refine held_all1 4 (by kernel_rfl) (op_value 4 57 _ v8' w8 rfl rfl rfl (exec_app _ _ _ _ rfl _ _ _ rfl rfl hr8) ⟨trivial, ?_⟩)
    simp only [Act.put, List.setIfInBounds_toArray, List.set_cons_succ, List.set_cons_zero]
    obtain ⟨v9', w9, hr9, hO9, hg9⟩ := app_intsX _ WD.heap.size _ _ hO8 (.slice (restD ax cx (K + 1)) (ds.length - (K + 1)) (cx - (K + 1))) _ ((HIR.out.below hBD (Nat.le_refl _)).below hb8 (Nat.le_refl _)) (by have := HKL.out; simp; omega) hb8.size
    have hb9 := below_grown hb8 hg9 hb8.size (fun q hq => (hO8.blocks q hq).1)
    rw [List.nil_append] at hO9
    refine held_all1 9 (by kernel_rfl) (op_value 9 62 _ v9' w9 rfl rfl rfl (exec_app _ _ _ _ rfl _ _ _ rfl rfl hr9) ⟨trivial, ?_⟩)
    simp only [Act.put, List.setIfInBounds_toArray, List.set_cons_succ, List.set_cons_zero]
    refine held_all1 10 (by kernel_rfl) (op_value 10 11 _ v9' w9 rfl rfl rfl rfl ⟨trivial, ?_⟩)
    simp only [Act.put, List.setIfInBounds_toArray, List.set_cons_succ, List.set_cons_zero]
    refine wpAnyH_done (by kernel_rfl) ?_ _
    refine NoPanic.normal ?_
    have hBB : Below W1.heap.size W1 w9 := hBD.trans (hb9.mono hBD.size)
    have hB3 : Below w.heap.size w w9 := hB2.trans (hBB.mono hB2.size)
    have HO9 : Hid (IntsI w9 v9' (ds.take K ++ ds.drop (K + 1))) := hO9.ints
    obtain ⟨a9, c9, rfl⟩ := HO9.out.shape
    have HP3 : Hid (PlanZ w9 w1.heap.size v1 [sortW c ds]) := by
      have := HP1.out.below hBB (Nat.le_refl _)
      rw [HPO.out] at this
      exact this
    have HEL : Hid ((ds.take K ++ ds.drop (K + 1)).length ≤ 1000) := (by have := HKL.out; simp; omega : (ds.take K ++ ds.drop (K + 1)).length ≤ 1000)
    clear hBD hO7 hb7 hr8 hO8 hg8 hb8 hr9 hO9 hg9 hb9 hBB hB2 HIT HIR HP1
    obtain ⟨es, hes⟩ : ∃ es, es = ds.take K ++ ds.drop (K + 1) := ⟨_, rfl⟩
    rw [← hes] at HPE HO9 HEL ⊢
    obtain ⟨S, hS⟩ : ∃ S, S = sortW c ds := ⟨_, rfl⟩
    have HSN : Hid (S.length ≤ 300) := by show _ ≤ _; rw [hS, sortW_len]; exact HKL.out.2.1
    rw [← hS] at HPE HP3 HPO
    clear hes hS
    have hA9 : Below w9.heap.size w9 (w9.alloc (.cells #[vI 100] 3)) := (Below.refl _ _).alloc (Nat.le_refl _) _
    have HZ : Hid (Calls Tryd.prog 5 #[.int .i64 c, .slice a9 es.length c9, .slice (some ⟨w9.heap.size, 0, none⟩) 1 1] (w9.alloc (.cells #[vI 100] 3)) fun e w' => ∃ v, e = .returned (.tuple #[v, .int .i64 0]) ∧ PlanZ w' w9.heap.size v [S.filter (fun x => decide (x ≠ D))] ∧ Below w9.heap.size w9 w') := by
      have hb := hB3.trans (hA9.mono hB3.size)
      have h := plan_any15 c _ _ es [100] _ (Nat.lt_of_lt_of_le HF.out.1 hb.size) (HF.out.2.below hb HF.out.1) (HO9.out.below hA9 (Nat.le_refl _)) (ints_new w9 [100] 3 _ rfl (by unfold maxLen; simp)) (by have := HEL.out; omega)
      rw [HPE.out] at h
      refine h.mono ?_
      rintro e w' ⟨v, rfl, h1, h2⟩
      exact ⟨v, rfl, h1.mono hA9.size, hA9.trans (h2.mono hA9.size)⟩
    clear hA9
    go_wp2_with fail
    refine HZ.out.mono ?_
    rintro e W3 ⟨v3, rfl, hp3, hb3⟩
    have hB4 : Below w.heap.size w W3 := hB3.trans (hb3.mono hB3.size)
    obtain ⟨b1, k1, r1, cc1, rfl, hbl1, hcl1, hor1⟩ := (HP3.out.below hb3 (Nat.le_refl _)).at (k := 0) rfl
    obtain ⟨b3, k3, r3, cc3, rfl, hbl3, hcl3, hor3⟩ := hp3.at (k := 0) rfl
    have HW3B : Hid (w.heap.size ≤ W3.heap.size) := hB4.size
    have HC1 : Hid (W3.cell? ⟨b1, 0, none⟩ = some (.slice r1 S.length cc1) ∧ b1 < W3.heap.size) := ⟨hcl1, hbl1⟩
    have HC3 : Hid (W3.cell? ⟨b3, 0, none⟩ = some (.slice r3 (S.filter (fun x => decide (x ≠ D))).length cc3) ∧ b3 < W3.heap.size) := ⟨hcl3, hbl3⟩
    have HI1 : Hid (IntsI W3 (.slice r1 S.length cc1) S) := hor1.ints
    have HI3 : Hid (IntsI W3 (.slice r3 (S.filter (fun x => decide (x ≠ D))).length cc3) (S.filter (fun x => decide (x ≠ D)))) := hor3.ints
    have HSF : Hid (0 < S.length → ∃ b off c, (Value.slice r1 S.length cc1) = .slice (some ⟨b, off, none⟩) S.length c ∧ S.length ≤ c ∧ b < W3.heap.size ∧ ∀ (j : Nat) z, S[j]? = some z → W3.cell? ⟨b, off + j, none⟩ = some (vI z)) := fun h => HI1.out.form h
    have ix1 : ∀ w, (Instr.indexAt 24 (.slice (some ⟨b1, 0, none⟩) 1 k1) (.int .i64 0)).run Tryd.prog w = .ok (.pointer (some ⟨b1, 0, none⟩)) w := fun w => index_intss b1 1 k1 0 w (by decide)
    have ix3 : ∀ w, (Instr.indexAt 24 (.slice (some ⟨b3, 0, none⟩) 1 k3) (.int .i64 0)).run Tryd.prog w = .ok (.pointer (some ⟨b3, 0, none⟩)) w := fun w => index_intss b3 1 k3 0 w (by decide)
    simp only [List.length_cons, List.length_nil, Nat.zero_add]
    clear hp3 hb3 hcl1 hor1 hcl3 hor3 HP3 HZ hbl1 hbl3
    obtain ⟨FI, hFI⟩ : ∃ FI, FI = S.filter (fun x => decide (x ≠ D)) := ⟨_, rfl⟩
    rw [← hFI] at HC3 HI3
    have HFI : Hid (FI = S.filter (fun x => decide (x ≠ D))) := hFI
    obtain ⟨q, qo, cq, hqq, _, hql, hqc⟩ := HR.out (by have := HL.out; omega)
    cases hqq
    have HQC : Hid (w.cell? ⟨q, qo + K, none⟩ = some (vI D)) := hqc K _ HDK.out
    have ixk := fun w => index_intsI q qo ds.length cx K w (by have := HKL.out; omega)
    clear hFI hqc
    go_wp2_with fail
    go_loopw [14, 15] (fun v i wr => ∃ k : Nat, k ≤ S.length ∧ i = .int .i64 (k : Int) ∧ OwnZ wr W3.heap.size v ((S.take k).filter (fun x => decide (x ≠ D))) ∧ Below w.heap.size w wr ∧ Below W3.heap.size W3 wr) (fun _ i _ => S.length - (Go.RowKit.intOf i).toNat)
    case atStart => exact ⟨0, Nat.zero_le _, rfl, OwnZ.nil _ _, hB4, Below.refl _ _⟩
    case round =>
      clear hB4
      obtain ⟨k, hk, rfl, hO, hB, hBW⟩ := hrel
      have hs300 : S.length ≤ 300 := HSN.out
      have d1 : wr.cell? ⟨b1, 0, none⟩ = some (.slice r1 S.length cc1) := (hBW.cell (p := ⟨b1, 0, none⟩) HC1.out.2).trans HC1.out.1
      by_cases hlt : k < S.length
      · have i1 : (k : Int) < (S.length : Int) := by omega
        obtain ⟨g, go', cg, hx9, _, hgl, hgc⟩ := HSF.out (by omega)
        cases hx9
        have hzc : wr.cell? ⟨g, go' + k, none⟩ = some (vI S[k]) := (hBW.cell (p := ⟨g, go' + k, none⟩) hgl).trans (hgc k _ (List.getElem?_eq_getElem hlt))
        have jx := fun w => index_intsI g go' S.length cc1 k w hlt
        have hdc : wr.cell? ⟨q, qo + K, none⟩ = some (vI D) := (hB.cell (p := ⟨q, qo + K, none⟩) hql).trans HQC.out
        have HTK : Hid ((S.take (k + 1)).filter (fun x => decide (x ≠ D)) = (S.take k).filter (fun x => decide (x ≠ D)) ++ (if S[k] ≠ D then [S[k]] else [])) := by
          show _ = _
          rw [List.take_add_one, List.getElem?_eq_getElem hlt, Option.toList_some, List.filter_append]
          by_cases h : S[k] = D <;> simp [h]
        have HLK : Hid (((S.take k).filter (fun x => decide (x ≠ D))).length ≤ 300) := Nat.le_trans (List.length_filter_le _ _) (by rw [List.length_take]; omega)
        obtain ⟨z, hz⟩ : ∃ z, z = S[k] := ⟨_, rfl⟩
        rw [← hz] at hzc HTK
        clear hgc hz
        generalize (S.take k).filter (fun x => decide (x ≠ D)) = got at *
        by_cases he : z = D
        · subst he
          have HT2 : Hid ((S.take (k + 1)).filter (fun x => decide (x ≠ z)) = got) := by
            show _ = _
            rw [HTK.out, if_neg (by simp), List.append_nil]
          clear HTK
          go_wp2_with fail
          go_quiet (fail)
          go_wp2
          go_roundw
          case rel => exact ⟨k + 1, hlt, by go_num, by rw [HT2.out]; exact hO, Below.drewN hB _, Below.drewN hBW _⟩
          case measure => simp [Go.RowKit.intOf] <;> omega
        · have HT2 : Hid ((S.take (k + 1)).filter (fun x => decide (x ≠ D)) = got ++ [z]) := by
            show _ = _
            rw [HTK.out, if_pos he]
          have hn : (z != D) = true := by simpa using he
          clear HTK
          go_wp2_with fail
          go_quiet (fail)
          have hB5 : Below w.heap.size w (wr.drewN nq) := Below.drewN hB nq
          have hB6 : Below W3.heap.size W3 (wr.drewN nq) := Below.drewN hBW nq
          have hO5 : OwnZ (wr.drewN nq) W3.heap.size u14 got := hO.below (Below.drewN (Below.refl _ _) nq) (Nat.le_refl _)
          have d2 : (wr.drewN nq).cell? ⟨b1, 0, none⟩ = some (.slice (some ⟨g, go', none⟩) S.length cc1) := d1
          have hz2 : (wr.drewN nq).cell? ⟨g, go' + k, none⟩ = some (vI z) := hzc
          clear hB hBW hO d1 hzc hdc hn he
          generalize wr.drewN nq = WX at *
          have HOA : Hid (OwnZ (WX.alloc (.cells #[vI z] 3)) W3.heap.size u14 got) := hO5.below ((Below.refl _ _).alloc (Nat.le_refl _) _) (Nat.le_refl _)
          have HIA : Hid (IntsI (WX.alloc (.cells #[vI z] 3)) (.slice (some ⟨WX.heap.size, 0, none⟩) 1 1) [z]) := ints_new WX [z] 3 _ rfl (by unfold maxLen; simp)
          have HA5 : Hid (Below w.heap.size w (WX.alloc (.cells #[vI z] 3)) ∧ Below W3.heap.size W3 (WX.alloc (.cells #[vI z] 3))) := ⟨hB5.alloc hB5.size _, hB6.alloc hB6.size _⟩
          have HPB : Hid (∀ q, u14.ownBlock = some q → W3.heap.size ≤ q) := fun q hq => (hO5.blocks q hq).1
          have HW3 : Hid (w.heap.size ≤ W3.heap.size) := HW3B.out
          clear hO5 hB5 hB6
          go_wp2_with (at_builtin; refine app_ints _ rfl (.tmp 101) (.tmp 108) rfl W3.heap.size _ got rfl (by exact HOA.out) _ [z] rfl (by exact HIA.out) (by have := HLK.out; simp only [List.length_cons, List.length_nil]; omega) (by exact HA5.out.2.size) ?_; intro v6 w6 ho6 hg6 hv6)
          have e6 : Below w.heap.size w w6 := HA5.out.1.grown hg6 HA5.out.1.size (fun q hq => Nat.le_trans HW3.out (HPB.out q hq))
          have e7 : Below W3.heap.size W3 w6 := HA5.out.2.grown hg6 HA5.out.2.size HPB.out
          go_roundw
          case rel => exact ⟨k + 1, hlt, by go_num, by rw [HT2.out]; exact ho6, e6, e7⟩
          case measure => simp [Go.RowKit.intOf] <;> omega
      · have hkl : k = S.length := by omega
        have i1 : ¬ (k : Int) < (S.length : Int) := by omega
        have HOO : Hid (IntsI wr u14 FI) := by
          have := hO.ints
          rw [hkl, List.take_length, ← HFI.out] at this
          exact this
        have d3 : wr.cell? ⟨b3, 0, none⟩ = some (.slice r3 FI.length cc3) := (hBW.cell (p := ⟨b3, 0, none⟩) HC3.out.2).trans HC3.out.1
        have HS : Hid (Calls Tryd.prog 6 #[.slice r3 FI.length cc3, u14] wr fun e w' => e = .returned (.bool true) ∧ Below wr.heap.size wr w') := by
          have := sameI_any _ _ FI FI wr (HI3.out.below hBW (Nat.le_refl _)) HOO.out
          rw [decide_eq_true rfl] at this
          exact this
        clear hO hkl hlt hBW
        go_wp2_with fail
        refine HS.out.mono ?_
        rintro e W4 ⟨rfl, hb4⟩
        go_wp2
        go_ret
        exact ⟨rfl, hB.trans (hb4.mono hB.size)⟩
  · have hn0 : ((planW c ds [100]).2 != 0) = true := by simpa using hc
    have hno := (planW_no hc).2
    clear hc
    generalize (planW c ds [100]).2 = E at *
    rcases hno with rfl | rfl
    · go_wp2
      go_ret
      exact ⟨rfl, hB2⟩
    · go_wp2
      go_ret
      exact ⟨rfl, hB2⟩
end Go.Proofs.YtnagdgkkkkpekabDoor
