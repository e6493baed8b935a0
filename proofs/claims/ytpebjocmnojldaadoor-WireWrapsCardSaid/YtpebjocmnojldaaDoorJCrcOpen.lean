/-
  What is proved here: crc.Open answers the bytes ahead of the last three, and true, if the three are those of their sum; else none and false.
  Conditions: at most a hundred million bytes; the variable fourBits holds the sixteen words.
-/
import Derived.Test.YtpebjocmnojldaaDoorJCrcSeal
import Derived.Stop.BytesEq
import Derived.BigQuiet
import Derived.Deep.QuietTactic
import Derived.Lib.QuietBelow
namespace Go.Proofs.YtpebjocmnojldaaDoor
open Go.RowKit

/-- The bytes that bs is the Seal of. -/
def openOf (bs : List UInt8) : Option (List UInt8) := if bs.length < 3 then none else if bs.take (bs.length - 3) ++ sumB (crcOf (bs.take (bs.length - 3))) = bs then some (bs.take (bs.length - 3)) else none

theorem openOf_yes (bs : List UInt8) (h : ¬ bs.length < 3) (he : sumB (crcOf (bs.take (bs.length - 3))) = bs.drop (bs.length - 3)) : openOf bs = some (bs.take (bs.length - 3)) := by
  unfold openOf; rw [if_neg h, he, List.take_append_drop, if_pos rfl]
theorem openOf_no (bs : List UInt8) (h : ¬ bs.length < 3) (he : ¬ sumB (crcOf (bs.take (bs.length - 3))) = bs.drop (bs.length - 3)) : openOf bs = none := by
  unfold openOf; rw [if_neg h, if_neg]
  intro h2
  apply he
  have := congrArg (List.drop (bs.length - 3)) h2
  rwa [List.drop_left' (by simp)] at this
theorem array_at (ad : Addr) (c : Nat) (w : World) : (Instr.arrayAt 79 (.slice (some ad) 3 c)).run Tryd.prog w = .ok (.pointer (some ad)) w := by
  simp [Instr.arrayAt, run_underlying Tryd.underlying79]
/-- A whole array is read in every world of the class. -/
theorem quiet_load {P : Program} {ops : Array Oper} {C : World → Prop} {Q : Act → Prop} {a : Act} {o : Oper} {rest : List Oper} (hgd : o.guard = none) (ty : TypeId) (x : Operand) (ho : o.op = .load ty x)
    (b off : Nat) (hx : a.eval x = .pointer (some ⟨b, off, none⟩)) (cs : List Value) (d : TypeDesc) (hc : ∀ w, C w → w.rangeAt b off cs)
    (hu : P.underlying ty = some d) (hd : d.isRow = true) (hi : (P.info? ty).map (·.size) = some cs.length)
    (h : wpQuiet P ops C Q rest (a.put o.dst (.agg cs.toArray))) : wpQuiet P ops C Q (o :: rest) a := by
  refine wpQuiet_step fun K hK => ?_
  rw [if_pos (by simp [Region.wanted, hgd])]
  refine ⟨.agg cs.toArray, fun w hw => ?_, hK _ h⟩
  unfold Oper.quietAt execOp
  simp only [ho, hx, Instr.loadAt, Instr.sureAddr, Sem.run_bind, Sem.run_pure, Result.andThen_ok, run_loadVar_mid w b off ty cs d (hc w hw) hu hd hi, Oper.quietUpon]
  exact ⟨trivial, trivial⟩
theorem three_of {l : List UInt8} (h : l.length = 3) : ∃ a b c, l = [a, b, c] := by
  match l, h with
  | [a, b, c], _ => exact ⟨a, b, c, rfl⟩

set_option maxRecDepth 100000 in
set_option maxHeartbeats 1000000 in
theorem open_any (x : Value) (bs : List UInt8) (w : World) (hm : bs.length ≤ 100000000) (hseg : Seg w x bs) (hgf : 0 < w.heap.size) (hf : Tab w 0 (fours.map v32)) :
    Calls Tryd.prog 23 #[x] w fun e w' => ∃ v, e = .returned (.tuple #[v, .bool (openOf bs).isSome]) ∧ Own w' w.heap.size v ((openOf bs).getD []) ∧ Below w.heap.size w w' := by
  obtain ⟨ao, c, rfl⟩ := hseg.shape
  by_cases h3 : bs.length < 3
  · have hO : openOf bs = none := by unfold openOf; rw [if_pos h3]
    rw [hO]
    go_enter Tryd.func23, Tryd.ntmps23
    go_wp2
    go_ret2
    exact ⟨_, rfl, ⟨rfl, .inl ⟨rfl, rfl⟩⟩, Below.refl _ _⟩
  obtain ⟨b, off, rfl, hc, hr, hb⟩ := hseg.form (by omega)
  have hsub : IntKind.i64.wrap ((bs.length : Int) - 3) = ((bs.length - 3 : Nat) : Int) := by rw [IntKind.wrap_i64]; omega
  have l1 := slice_to (some ⟨b, off, none⟩) bs.length c (bs.length - 3) (by omega)
  have l2 := slice_from b off bs.length c (bs.length - 3) (by omega) (by omega)
  rw [show bs.length - (bs.length - 3) = 3 by omega] at l2
  go_enter Tryd.func23, Tryd.ntmps23
  go_wp2_with fail
  go_quiet (fail)
  go_wp2_with fail
  obtain ⟨W, hW⟩ : ∃ W, W = w.drewN nq := ⟨_, rfl⟩
  rw [← hW]
  have hBW : Below w.heap.size w W := by rw [hW]; exact Below.drewN (Below.refl _ _) _
  clear hW l1 l2 hsub
  have hsT := ((hseg.below hBW (Nat.le_refl _)).takes (bs.length - 3) (by omega)).1
  have hfW := hf.below hBW hgf
  obtain ⟨t0, t1, t2, hT3⟩ := three_of (l := bs.drop (bs.length - 3)) (by simp; omega)
  have hrd := (hr.below hBW hb).drop (bs.length - 3)
  rw [hT3] at hrd
  have hrg : Hid (∀ w, (∃ p : Regrown, w = Sort.grow (redrawn W p.d) p.os) → w.rangeAt b (off + (bs.length - 3)) [v8 t0, v8 t1, v8 t2]) := by
    rintro w2 ⟨p, rfl⟩ j u hu
    have hj : j < [t0, t1, t2].length := by
      have := (List.getElem?_eq_some_iff.1 hu).1
      simpa using this
    have := (hrd.below (below_regrown W p.d p.os) (Nat.lt_of_lt_of_le hb hBW.size)) j hj
    rw [this, ← hu]
    obtain rfl | rfl | rfl : j = 0 ∨ j = 1 ∨ j = 2 := by simp at hj; omega
    all_goals rfl
  have HO : Hid ((sumB (crcOf (bs.take (bs.length - 3))) = [t0, t1, t2] → openOf bs = some (bs.take (bs.length - 3))) ∧ (¬ sumB (crcOf (bs.take (bs.length - 3))) = [t0, t1, t2] → openOf bs = none)) := ⟨fun h => openOf_yes bs h3 (h.trans hT3.symm), fun h => openOf_no bs h3 (fun h2 => h (h2.trans hT3))⟩
  have hlT : (bs.take (bs.length - 3)).length ≤ 1000000000 := by simp; omega
  clear hrd hT3
  generalize bs.take (bs.length - 3) = T at hsT HO hlT
  have cS : ∀ d os, Calls Tryd.prog 38 #[.slice (some ⟨b, off, none⟩) (bs.length - 3) c] (Sort.grow (redrawn W d) os) fun e w'' => e = .returned (v32 (crcOf T)) ∧ ∃ p : Regrown, w'' = Sort.grow (redrawn W p.d) p.os := fun d os => Calls.regrown_of ((csum_any _ T _ hlT (hsT.below (below_regrown W d os) (Nat.le_refl _)) (hfW.below (below_regrown W d os) (Nat.lt_of_lt_of_le hgf hBW.size))).mono fun _ _ ⟨h1, h2⟩ => ⟨h1, h2 ▸ Below.refl _ _⟩)
  have cB : ∀ d os, Calls Tryd.prog 37 #[v32 (crcOf T)] (Sort.grow (redrawn W d) os) fun e w'' => e = .returned (.agg ((sumB (crcOf T)).map v8).toArray) ∧ ∃ p : Regrown, w'' = Sort.grow (redrawn W p.d) p.os := fun d os => Calls.regrown_of (sumBytes_any _ _)
  have heq : ∀ w : World, (Op.equalIn 10000 79 (.agg ((sumB (crcOf T)).map v8).toArray) (.agg #[v8 t0, v8 t1, v8 t2])).run Tryd.prog w = .ok (sumB (crcOf T) == [t0, t1, t2]) w := fun w =>
    run_equalIn_bytes (P := Tryd.prog) w 9998 79 5 3 Tryd.underlying79 Tryd.underlying5 (fun w => by kernel_rfl) (sumB (crcOf T)) [t0, t1, t2] rfl rfl
  have hat := array_at ⟨b, off + (bs.length - 3), none⟩ (c - (bs.length - 3))
  generalize crcOf T = S at *
  generalize hAG : ((sumB S).map v8).toArray = AG at *
  refine wp_region_quiet_below (by kernel_rfl) (by kernel_rfl) ?_
  quiet_step (fail)
  quiet_step (exact cS _ _)
  quiet_step (exact cB _ _)
  quiet_step (fail)
  quiet_step (fail)
  refine quiet_load rfl 79 _ rfl b (off + (bs.length - 3)) rfl [v8 t0, v8 t1, v8 t2] _ hrg.out Tryd.underlying79 rfl Tryd.info79s ?_
  quiet_step (fail)
  refine wpQuiet_nil ?_
  intro WQ hw'
  have hBQ : Below w.heap.size w WQ := by
    obtain ⟨p, rfl⟩ := hw'
    exact hBW.trans ((below_regrown W p.d p.os).mono hBW.size)
  clear hw' cS cB heq hat hrg hfW hsT
  obtain ⟨EQ, hEQ⟩ : ∃ EQ, EQ = (sumB S == [t0, t1, t2]) := ⟨_, rfl⟩
  rw [← hEQ]
  by_cases hE : sumB S = [t0, t1, t2]
  · have hO := HO.out.1 hE
    obtain rfl : EQ = true := by rw [hEQ]; simp [hE]
    have hsT : Seg WQ (.slice (some ⟨b, off, none⟩) (bs.length - 3) c) T := by
      have h := ((hseg.below hBQ (Nat.le_refl _)).takes (bs.length - 3) (by omega)).1
      have hT : openOf bs = some (bs.take (bs.length - 3)) := by
        unfold openOf at hO ⊢
        rw [if_neg h3] at hO ⊢
        split at hO
        · rename_i h5; rw [if_pos h5]
        · cases hO
      rw [Option.some.inj (hO.symm.trans hT)]; exact h
    have HC : Hid (Calls Tryd.prog 46 #[.slice (some ⟨b, off, none⟩) (bs.length - 3) c] WQ fun e w' => ∃ v, e = .returned v ∧ Own w' WQ.heap.size v T ∧ Below WQ.heap.size WQ w') := clone_any _ T WQ hlT hsT
    clear HO hE hEQ
    go_wp2_with fail
    refine HC.out.mono ?_
    rintro e w4 ⟨v4, rfl, ho4, hb4⟩
    go_wp2
    go_ret2
    rw [hO]
    exact ⟨_, rfl, ho4.mono hBQ.size, hBQ.trans (hb4.mono hBQ.size)⟩
  · have hO := HO.out.2 hE
    obtain rfl : EQ = false := by rw [hEQ]; simp [hE]
    clear HO hEQ
    go_wp2
    go_ret2
    rw [hO]
    exact ⟨_, rfl, ⟨rfl, .inl ⟨rfl, rfl⟩⟩, hBQ⟩
end Go.Proofs.YtpebjocmnojldaaDoor
