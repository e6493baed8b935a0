/-
  What is proved here: slices.Delete takes one entry out of those that wait.
  Conditions: they lie in a row of the box's own.
-/
import Derived.Test.YtgoehohadnkpdaaDoorJOutRow
import Derived.Lib.SliceRun
namespace Go.Proofs.YtgoehohadnkpdaaDoor
open Go.RowKit

theorem elem_ents : Tryd.prog.elem 65 = 63 := by kernel_rfl
theorem size_ent12 (w : World) : (sizeOf 63).run Tryd.prog w = .ok 7 w := by kernel_rfl
def restE (ao : Option Addr) (c lo : Nat) : Option Addr := if c = lo then ao else ao.map (·.add (lo * 7))
theorem slice_toE (ao : Option Addr) (len c n : Nat) (h : n ≤ c) (w : World) : (Instr.slice 65 (.slice ao len c) none (some (.int .i64 (n : Int))) none).run Tryd.prog w = .ok (.slice ao n c) w := by
  rw [run_slice_h w 65 ao len c (by rw [elem_ents]; exact Tryd.underlying65) .i64 n (by omega) (by omega), elem_ents, size_ent12]
  simp only [Result.andThen_ok, sliced, Int.toNat_natCast, Nat.zero_mul, add_zero_addrD, Nat.sub_zero, ite_self]
theorem slice_restE (ao : Option Addr) (len c lo : Nat) (h : lo ≤ len) (w : World) : (Instr.slice 65 (.slice ao len c) (some (.int .i64 (lo : Int))) none none).run Tryd.prog w = .ok (.slice (restE ao c lo) (len - lo) (c - lo)) w := by
  rw [run_slice_l w 65 ao len c (by rw [elem_ents]; exact Tryd.underlying65) .i64 lo (by omega) (by omega), elem_ents, size_ent12]
  simp only [Result.andThen_ok, sliced, Int.toNat_natCast, restE]
theorem slice_midE (ao : Option Addr) (len c lo hi : Nat) (h : lo ≤ hi) (hc : hi ≤ c) (w : World) : (Instr.slice 65 (.slice ao len c) (some (.int .i64 (lo : Int))) (some (.int .i64 (hi : Int))) none).run Tryd.prog w = .ok (.slice (restE ao c lo) (hi - lo) (c - lo)) w := by
  rw [run_slice_lh w 65 ao len c (by rw [elem_ents]; exact Tryd.underlying65) .i64 .i64 lo hi (by omega) (by omega) (by omega), elem_ents, size_ent12]
  simp only [Result.andThen_ok, sliced, Int.toNat_natCast, restE]
theorem slice_allE (ao : Option Addr) (len c lo hi m : Nat) (h : lo ≤ hi) (hm : hi ≤ m) (hc : m ≤ c) : ∃ v, ∀ w, (Instr.slice 65 (.slice ao len c) (some (.int .i64 (lo : Int))) (some (.int .i64 (hi : Int))) (some (.int .i64 (m : Int)))).run Tryd.prog w = .ok v w := by
  refine ⟨.slice (restE ao m lo) (hi - lo) (m - lo), fun w => ?_⟩
  rw [run_slice_lhm w 65 ao len c (by rw [elem_ents]; exact Tryd.underlying65) .i64 .i64 .i64 lo hi m (by omega) (by omega) (by omega) (by omega), elem_ents, size_ent12]
  simp only [Result.andThen_ok, sliced, Int.toNat_natCast, restE]
theorem exec_sliceE {a : Act} {o : Oper} {w : World} (x : Operand) (l h m : Option Operand) (ho : o.op = .slice 65 x l h m) (u r : Value) (lv hv mv : Option Value) (hx : a.eval x = u) (hl : l.map a.eval = lv) (hh : h.map a.eval = hv) (hm : m.map a.eval = mv) (hr : (Instr.slice 65 u lv hv mv).run Tryd.prog w = .ok r w) : (execOp a.eval o).run Tryd.prog w = .ok (.value r) w := by
  subst hl; subst hh; subst hm
  unfold execOp
  simp [ho, hx, hr, Instr.sliceAt, run_underlying Tryd.underlying65]
def zerE : List Value := List.replicate 7 (.int .i64 0)
theorem clear_one (w : World) (b o c : Nat) (hc : ∀ j, j < 7 → (w.cell? ⟨b, o + j, none⟩).isSome = true) (hf : ∀ j, j < 7 → w.frozen? ⟨b, o + j, none⟩ = false) (ty : TypeId) :
    (Builtin.clear_ #[65] ty #[.slice (some ⟨b, o, none⟩) 1 c]).run Tryd.prog w = .ok (.tuple #[]) (w.setCells b o zerE) := by
  have hv : ∀ w, (zeroValue 63).run Tryd.prog w = .ok (.agg #[.int .i64 0, .int .i64 0, .int .i64 0, .int .i64 0, .int .i64 0, .int .i64 0, .int .i64 0]) w := fun w => by kernel_rfl
  have hzc : (Builtin.zeroCells (Value.agg #[.int .i64 0, .int .i64 0, .int .i64 0, .int .i64 0, .int .i64 0, .int .i64 0, .int .i64 0]).cells 1).toList = zerE := by first | rfl | kernel_rfl | simp [Builtin.zeroCells, zerE, Value.cells]
  have hst := run_storeCells_cells (P := Tryd.prog) b o zerE 0 w (by simpa [zerE] using hc) (by simpa [zerE] using hf) (by intro v hv'; rw [List.eq_of_mem_replicate hv']; rfl)
  simp only [Nat.add_zero] at hst
  simp [Builtin.clear_, run_underlying under_ents, hv, hzc, hst]
/-- What the row holds behind it. -/
theorem del_row (C : List Value) (l : List XE) (i : Nat) (hi : i < l.length) (hC : C.take (l.length * 7) = xsC l) :
    (splice (splice C (i * 7) (xsC (l.drop (i + 1)))) ((l.length - 1) * 7) zerE).take ((l.length - 1) * 7) = xsC (l.eraseIdx i) := by
  have hsp : l = l.take i ++ l[i] :: l.drop (i + 1) := by rw [List.getElem_cons_drop, List.take_append_drop]
  have hn : (xsC (l.drop (i + 1))).length = (l.length - 1 - i) * 7 := by rw [xsC_len, List.length_drop, show l.length - (i + 1) = l.length - 1 - i by omega]
  have ht : C.take (i * 7) = xsC (l.take i) := by
    have h1 : (C.take (l.length * 7)).take (i * 7) = C.take (i * 7) := by rw [List.take_take, Nat.min_eq_left (by omega)]
    rw [← h1, hC]
    have h2 : xsC l = xsC (l.take i) ++ xsC (l[i] :: l.drop (i + 1)) := by rw [← xsC_app, ← hsp]
    rw [h2, List.take_left' (by rw [xsC_len, List.length_take, Nat.min_eq_left (by omega)])]
  have e1 : splice C (i * 7) (xsC (l.drop (i + 1))) = xsC (l.take i ++ l.drop (i + 1)) ++ C.drop ((l.length - 1) * 7) := by
    unfold splice
    rw [ht, hn, show i * 7 + (l.length - 1 - i) * 7 = (l.length - 1) * 7 by omega, ← List.append_assoc, ← xsC_app]
  have hlen : (xsC (l.take i ++ l.drop (i + 1))).length = (l.length - 1) * 7 := by
    rw [xsC_len, List.length_append, List.length_take, List.length_drop, Nat.min_eq_left (by omega)]
    congr 1
    omega
  rw [e1]
  unfold splice
  rw [List.take_left' hlen, List.take_left' hlen, List.eraseIdx_eq_take_drop_succ]
theorem splice_len {α : Type} (L : List α) (o : Nat) (cs : List α) (h : o + cs.length ≤ L.length) : (splice L o cs).length = L.length := by
  unfold splice
  rw [List.length_append, List.length_append, List.length_take, List.length_drop]
  omega

set_option maxRecDepth 100000 in
set_option maxHeartbeats 2000000 in
theorem deleteX (base : Nat) (v : Value) (l : List XE) (i : Nat) (w : World) (hl : l.length ≤ 1000000) (hi : i < l.length) (hW : WtR w base v l) :
    Calls Tryd.prog 34 #[v, .int .i64 (i : Int), .int .i64 ((i : Int) + 1)] w fun e w' => ∃ v', e = .returned v' ∧ WtR w' base v' (l.eraseIdx i) ∧ v'.ownBlock = v.ownBlock ∧ Chg (fun q => v.ownBlock = some q) w w' := by
  obtain ⟨b, c, cur, rfl, hb, hk, hlc, hcm, hcs, htk⟩ := hW.blk (by omega)
  clear hW
  obtain ⟨news, hnews⟩ : ∃ news, news = xsC (l.drop (i + 1)) := ⟨_, rfl⟩
  have hnl : news.length = (l.length - 1 - i) * 7 := by rw [hnews, xsC_len, List.length_drop, show l.length - (i + 1) = l.length - 1 - i by omega]
  obtain ⟨i0, hi0, hz0, hz1, hz2⟩ := info_parts9 info_entX
  have hcell : ∀ j, j < c * 7 → (w.cell? ⟨b, j, none⟩).isSome = true := fun j hj => by
    rw [hk.cell (v := cur[j]'(by omega)) (by simp [show j < cur.size by omega])]
    rfl
  obtain ⟨A, hA, hsrc⟩ : ∃ A : Addr, restE (some ⟨b, 0, none⟩) c (i + 1) = some A ∧ (∀ t u, news[t]? = some u → w.drew.cell? (A.add t) = some u) := by
    unfold restE
    by_cases h : c = i + 1
    · refine ⟨⟨b, 0, none⟩, by rw [if_pos h], fun t u hu => ?_⟩
      have h0 : news.length = 0 := by rw [hnl]; omega
      rw [List.length_eq_zero_iff.1 h0] at hu
      simp at hu
    · refine ⟨⟨b, 0 + (i + 1) * 7, none⟩, by rw [if_neg h, Option.map_some, Addr.add_mid], fun t u hu => ?_⟩
      have ht : t < news.length := (List.getElem?_eq_some_iff.1 hu).1
      rw [Addr.add_mid]
      refine hk.cell ?_
      have h8 : (xsC l)[(i + 1) * 7 + t]? = some u := by
        have h2 : xsC l = xsC (l.take (i + 1)) ++ xsC (l.drop (i + 1)) := by rw [← xsC_app, List.take_append_drop]
        rw [h2, List.getElem?_append_right (by rw [xsC_len, List.length_take]; omega), xsC_len, List.length_take, Nat.min_eq_left (by omega), show (i + 1) * 7 + t - (i + 1) * 7 = t by omega, ← hnews]
        exact hu
      rw [← htk, List.getElem?_take_of_lt (by rw [hnl] at ht; omega)] at h8
      rw [← h8, Nat.zero_add]
      simp
  have hap : ∀ ty, (Builtin.append_ #[65, 65] ty #[.slice (some ⟨b, 0, none⟩) i c, .slice (some A) (l.length - (i + 1)) (c - (i + 1))]).run Tryd.prog w.drew = .ok (.slice (some ⟨b, 0, none⟩) (i + (l.length - (i + 1))) c) (w.drew.setCells b (i * 7) news) := fun ty => by
    have := run_append_room_cells (P := Tryd.prog) w.drew 65 ty 63 i0 under_ents hi0 b 0 i c A (l.length - (i + 1)) (c - (i + 1)) news (by rw [hnl, hz1]; congr 1; omega) hsrc (by rw [hnews]; exact one_xs _) (by omega) (fun j hj => by rw [hz1, Nat.zero_add]; exact hcell _ (by omega)) (fun j _ => hk.frozen _)
    rw [hz1, Nat.zero_add] at this
    exact this
  have hkW : Blk (w.drew.setCells b (i * 7) news) b 63 (splice cur.toList (i * 7) news).toArray := Blk.setCells news (i * 7) w.drew cur hk (by omega)
  have hgW := (grown_setCells b news (i * 7) w.drew).1
  have hcW : Chg (fun q => (Value.slice (some ⟨b, 0, none⟩) l.length c).ownBlock = some q) w (w.drew.setCells b (i * 7) news) := ((Chg.refl _ w).drew).trans (Chg.of_grown (S := fun q => (Value.slice (some ⟨b, 0, none⟩) l.length c).ownBlock = some q) hgW (fun k e => by cases e; rfl)) (fun _ _ h => h)
  generalize w.drew.setCells b (i * 7) news = W1 at *
  have hctl : cur.toList.length = c * 7 := by simp [hcs]
  have hsl : (splice cur.toList (i * 7) news).length = cur.size := by rw [splice_len _ _ _ (by omega)]; omega
  have hz : zerE.length = 7 := rfl
  have hcl := clear_one W1 b ((l.length - 1) * 7) (c - (l.length - 1)) (fun j hj => by
    rw [hkW.cell (v := (splice cur.toList (i * 7) news)[(l.length - 1) * 7 + j]'(by omega)) (by simp [show (l.length - 1) * 7 + j < (splice cur.toList (i * 7) news).length by omega])]
    rfl) (fun j _ => hkW.frozen _)
  have hk2 : Blk (W1.setCells b ((l.length - 1) * 7) zerE) b 63 (splice (splice cur.toList (i * 7) news) ((l.length - 1) * 7) zerE).toArray := (Blk.setCells zerE ((l.length - 1) * 7) W1 _ hkW (by rw [List.size_toArray]; omega)).of_eq (by simp)
  have hg2 := (grown_setCells b zerE ((l.length - 1) * 7) W1).1
  have hc2 : Chg (fun q => (Value.slice (some ⟨b, 0, none⟩) l.length c).ownBlock = some q) w (W1.setCells b ((l.length - 1) * 7) zerE) := hcW.trans (Chg.of_grown (S := fun q => (Value.slice (some ⟨b, 0, none⟩) l.length c).ownBlock = some q) hg2 (fun k e => by cases e; rfl)) (fun _ _ h => h)
  have hrow : WtR (W1.setCells b ((l.length - 1) * 7) zerE) base (.slice (some ⟨b, 0, none⟩) (l.length - 1) c) (l.eraseIdx i) := by
    refine ⟨xsC_len _, .inr ⟨b, c, _, by rw [List.length_eraseIdx_of_lt hi], hb, hk2, by rw [List.length_eraseIdx_of_lt hi]; omega, hcm, ?_, ?_⟩⟩
    · rw [List.size_toArray, splice_len _ _ _ (by omega), hsl, hcs]
    · rw [List.length_eraseIdx_of_lt hi, List.toList_toArray, hnews]
      exact del_row cur.toList l i hi htk
  generalize W1.setCells b ((l.length - 1) * 7) zerE = W2 at *
  obtain ⟨v1, s1⟩ : ∃ v, ∀ w, (Instr.slice 65 (.slice (some ⟨b, 0, none⟩) l.length c) (some (.int .i64 (i : Int))) (some (.int .i64 ((i : Int) + 1))) (some (.int .i64 (l.length : Int)))).run Tryd.prog w = .ok v w := by
    have := slice_allE (some ⟨b, 0, none⟩) l.length c i (i + 1) l.length (by omega) (by omega) hlc
    rwa [Int.natCast_add] at this
  have s2 := slice_toE (some ⟨b, 0, none⟩) l.length c i (by omega)
  have s3 : ∀ w, (Instr.slice 65 (.slice (some ⟨b, 0, none⟩) l.length c) (some (.int .i64 ((i : Int) + 1))) none none).run Tryd.prog w = .ok (.slice (some A) (l.length - (i + 1)) (c - (i + 1))) w := fun w => by
    have := slice_restE (some ⟨b, 0, none⟩) l.length c (i + 1) (by omega) w
    rwa [hA, Int.natCast_add] at this
  have hrE : restE (some ⟨b, 0, none⟩) c (l.length - 1) = some ⟨b, (l.length - 1) * 7, none⟩ := by
    unfold restE
    rw [if_neg (by omega), Option.map_some, Addr.add_mid, Nat.zero_add]
  obtain ⟨M, hM⟩ : ∃ M, M = l.length - 1 := ⟨_, rfl⟩
  have hM1 : i + (l.length - (i + 1)) = M := by omega
  have s4 : ∀ w, (Instr.slice 65 (.slice (some ⟨b, 0, none⟩) M c) (some (.int .i64 (M : Int))) (some (.int .i64 (l.length : Int))) none).run Tryd.prog w = .ok (.slice (some ⟨b, M * 7, none⟩) 1 (c - M)) w := fun w => by
    have := slice_midE (some ⟨b, 0, none⟩) M c M l.length (by omega) hlc w
    rw [hM, hrE, show l.length - (l.length - 1) = 1 by omega] at this
    rw [hM]
    exact this
  rw [hM1] at hap
  rw [← hM] at hcl hrow
  clear hM hM1 hrE hcs htk hnl hnews hsrc hcell hkW hgW hcW hsl hctl hz hk2 hg2 hk hA hz0 hz1 hz2 hi0
  have hne : ((i : Int) == (i : Int) + 1) = false := beq_eq_false_iff_ne.2 (by omega)
  go_enter Tryd.func34, Tryd.ntmps34
  go_wp2_with fail
  refine held_begin (fun _ => True) (by kernel_rfl) ?_
  refine held_take 0 20 _ (.slice (some ⟨b, 0, none⟩) l.length c) rfl rfl (by kernel_rfl) (by kernel_rfl) (by kernel_rfl) rfl trivial (fun _ _ => rfl) ?_
  simp only [Act.put, List.setIfInBounds_toArray, List.set_cons_succ, List.set_cons_zero]
  refine held_take 1 21 _ (.int .i64 (i : Int)) rfl rfl (by kernel_rfl) (by kernel_rfl) (by kernel_rfl) rfl trivial (fun _ _ => rfl) ?_
  simp only [Act.put, List.setIfInBounds_toArray, List.set_cons_succ, List.set_cons_zero]
  refine held_take 2 22 _ (.slice (some ⟨b, 0, none⟩) i c) rfl rfl (by kernel_rfl) (by kernel_rfl) (by kernel_rfl) rfl trivial (fun V _ => exec_sliceE (.tmp 20) none (some (.tmp 21)) none rfl (.slice (some ⟨b, 0, none⟩) l.length c) (.slice (some ⟨b, 0, none⟩) i c) none (some (.int .i64 (i : Int))) none rfl rfl rfl rfl (s2 V)) ?_
  simp only [Act.put, List.setIfInBounds_toArray, List.set_cons_succ, List.set_cons_zero]
  refine held_take 3 23 _ (.slice (some ⟨b, 0, none⟩) l.length c) rfl rfl (by kernel_rfl) (by kernel_rfl) (by kernel_rfl) rfl trivial (fun _ _ => rfl) ?_
  simp only [Act.put, List.setIfInBounds_toArray, List.set_cons_succ, List.set_cons_zero]
  refine held_take 4 24 _ (.int .i64 ((i : Int) + 1)) rfl rfl (by kernel_rfl) (by kernel_rfl) (by kernel_rfl) rfl trivial (fun _ _ => rfl) ?_
  simp only [Act.put, List.setIfInBounds_toArray, List.set_cons_succ, List.set_cons_zero]
  refine held_take 5 25 _ (.slice (some A) (l.length - (i + 1)) (c - (i + 1))) rfl rfl (by kernel_rfl) (by kernel_rfl) (by kernel_rfl) rfl trivial (fun V _ => exec_sliceE (.tmp 23) (some (.tmp 24)) none none rfl (.slice (some ⟨b, 0, none⟩) l.length c) (.slice (some A) (l.length - (i + 1)) (c - (i + 1))) (some (.int .i64 ((i : Int) + 1))) none none rfl rfl rfl rfl (s3 V)) ?_
  simp only [Act.put, List.setIfInBounds_toArray, List.set_cons_succ, List.set_cons_zero]
  refine held_all1 6 (by kernel_rfl) (op_value 6 26 _ (.slice (some ⟨b, 0, none⟩) M c) W1 rfl rfl rfl (exec_app (.tmp 22) (.tmp 25) 65 65 rfl (.slice (some ⟨b, 0, none⟩) i c) (.slice (some A) (l.length - (i + 1)) (c - (i + 1))) (.slice (some ⟨b, 0, none⟩) M c) rfl rfl hap) ⟨trivial, ?_⟩)
  simp only [Act.put, List.setIfInBounds_toArray, List.set_cons_succ, List.set_cons_zero]
  refine held_all1 7 (by kernel_rfl) (op_value 7 0 _ (.slice (some ⟨b, 0, none⟩) M c) W1 rfl rfl rfl rfl ⟨trivial, ?_⟩)
  simp only [Act.put, List.setIfInBounds_toArray, List.set_cons_zero]
  refine wpAnyH_done (by kernel_rfl) ?_ _
  refine NoPanic.normal ?_
  go_wp2
  go_ret
  exact ⟨_, rfl, hrow, rfl, hc2⟩
end Go.Proofs.YtgoehohadnkpdaaDoor
