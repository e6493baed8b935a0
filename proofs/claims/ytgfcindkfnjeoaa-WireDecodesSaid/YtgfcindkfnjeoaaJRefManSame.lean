/-
  What is proved here: the document's Same of layer 10 answers true of two manifests that are the same.
  Conditions: those that the fact names.
-/
import Derived.Test.YtgfcindkfnjeoaaJManFresh
import Derived.Deep.QuietTactic
import Derived.BigQuiet
namespace Go.Proofs.Ytgfcindkfnjeoaa
open Go.RowKit

theorem loadmid_guarded {ops : Array Oper} {rest : List Oper} {o : Oper} {a : Act} {w : World} {Q : Exit → Act → World → Prop} (hw : Region.wanted o (yielded ops a.tmps) = true) (ty : TypeId) (x : Operand) (ho : o.op = .load ty x)
    (b off : Nat) (hx : a.eval x = .pointer (some ⟨b, off, none⟩)) (cs : List Value) (d : TypeDesc) (hc : w.rangeAt b off cs)
    (hu : Try.prog.underlying ty = some d) (hd : d.isRow = true) (hi : (Try.prog.info? ty).map (·.size) = some cs.length)
    (h : wpList Try.prog ops Q rest (a.put o.dst (.agg cs.toArray)) w) : wpList Try.prog ops Q (o :: rest) a w := by
  refine wpList_step fun K hK => ?_
  rw [if_pos hw]
  unfold Oper.wp
  rw [exec_loadsM ty x ho b off hx cs _ rfl d hc hu hd hi]
  exact hK _ _ h

set_option maxRecDepth 100000 in
set_option maxHeartbeats 2000000 in
theorem rsame_any (m : MM) (su su' : Value) (w : World) (hh : m.h.length = 32) (hm : m.u.length ≤ 1000000000) (hu : Wds w su m.u) (hu' : Wds w su' m.u) :
    Calls Try.prog 29 #[manV m su, manV m su'] w fun e w' => e = .returned (.bool true) ∧ Below w.heap.size w w' := by
  have hB : Below w.heap.size w ((w.alloc (.cells (manC m su) 25)).alloc (.cells (manC m su') 25)) := ((Below.refl _ _).alloc (Nat.le_refl _) _).alloc (by simp) _
  have k2 := (Blk.new w 25 (manC m su)).alloc (.cells (manC m su') 25)
  have k3 : Blk ((w.alloc (.cells (manC m su) 25)).alloc (.cells (manC m su') 25)) (w.heap.size + 1) 25 (manC m su') := Blk.newAt _ _ _ _ (by simp)
  have a0 := k2.cell (manC_0 m su)
  have a1 := k2.cell (manC_1 m su)
  have a2 := k2.cell (manC_2 m su)
  have a35 := k2.cell (manC_35 m su hh)
  have b0 := k3.cell (manC_0 m su')
  have b1 := k3.cell (manC_1 m su')
  have b2 := k3.cell (manC_2 m su')
  have b35 := k3.cell (manC_35 m su' hh)
  have ra := man_range m su _ _ k2
  have rb := man_range m su' _ _ k3
  have hu1 := hu.below hB (Nat.le_refl _)
  have hu2 := hu'.below hB (Nat.le_refl _)
  have hil : (Try.prog.info? 22).map (·.size) = some (m.h.map v8).length := by rw [List.length_map, hh]; kernel_rfl
  have heq : ∀ V, (Op.equalIn 10000 22 (.agg (m.h.map v8).toArray) (.agg (m.h.map v8).toArray)).run Try.prog V = .ok true V := fun V => by
    have := run_equalIn_bytes (P := Try.prog) V 9998 22 5 32 Try.underlying22 Try.underlying5 (fun w => by kernel_rfl) m.h m.h hh hh
    rw [beq_self_eq_true] at this
    exact this
  obtain ⟨ao, c, rfl⟩ := hu.shape
  obtain ⟨ao', c', rfl⟩ := hu'.shape
  clear hu hu' hh k2 k3
  unfold manV
  generalize manC m (.slice ao m.u.length c) = MA at *
  generalize manC m (.slice ao' m.u.length c') = MB at *
  generalize m.h.map v8 = HL at *
  generalize m.v = v at *
  generalize m.s = sz at *
  generalize m.c = ch at *
  generalize m.u = U at *
  go_enter Try.func29, Try.ntmps29
  generalize hW0 : (w.alloc (.cells MA 25)).alloc (.cells MB 25) = W0 at *
  go_wp2_with (first | (refine loadmid_guarded rfl 22 _ rfl w.heap.size 3 rfl HL _ (by first | exact ra | (rw [hW0]; exact ra)) Try.underlying22 rfl hil ?_) | (refine loadmid_guarded rfl 22 _ rfl (w.heap.size + 1) 3 rfl HL _ (by first | exact rb | (rw [hW0]; exact rb)) Try.underlying22 rfl hil ?_))
  have hB' : Below w.heap.size w W0 := hB
  clear hW0 ra rb heq hil a0 a1 a2 b0 b1 b2 hB
  obtain ⟨_, _, e1, hr1⟩ := hu1
  cases e1
  obtain ⟨_, _, e2, hr2⟩ := hu2
  cases e2
  have HR1 : Hid (0 < U.length → ∃ b off, ao = some ⟨b, off, none⟩ ∧ U.length ≤ c ∧ WRow W0 b off U ∧ b < W0.heap.size) := hr1
  have HR2 : Hid (0 < U.length → ∃ b off, ao' = some ⟨b, off, none⟩ ∧ U.length ≤ c' ∧ WRow W0 b off U ∧ b < W0.heap.size) := hr2
  clear hr1 hr2
  go_loopw [5] (fun i wr => ∃ I n : Nat, I ≤ U.length ∧ i = .int .i64 (I : Int) ∧ wr = W0.drewN n) (fun i _ => U.length - (intOf i).toNat)
  case atStart => exact ⟨0, 0, Nat.zero_le _, rfl, rfl⟩
  case round =>
    obtain ⟨I, n, hI, rfl, rfl⟩ := hrel
    by_cases hlt : I < U.length
    · obtain ⟨b, off, rfl, hc, hrow, hb⟩ := HR1.out (by omega)
      obtain ⟨b', off', rfl, hc', hrow', hb'⟩ := HR2.out (by omega)
      have x1 : W0.cell? ⟨b, off + I, none⟩ = some (v32 U[I]) := hrow I hlt
      have x2 : W0.cell? ⟨b', off' + I, none⟩ = some (v32 U[I]) := hrow' I hlt
      have i1 : (I : Int) < (U.length : Int) := by omega
      obtain ⟨y, hy⟩ : ∃ y, y = U[I] := ⟨_, rfl⟩
      rw [← hy] at x1 x2
      clear hrow hrow' hy HR1 HR2
      go_wp2_with fail
      go_quiet (fail)
      go_wp2
      go_roundw
      case rel => exact ⟨I + 1, _, hlt, by go_num, rfl⟩
      case measure => simp only [intOf]; omega
    · have i1 : ¬ (I : Int) < (U.length : Int) := by omega
      clear HR1 HR2
      go_wp2
      go_ret
      exact ⟨rfl, Below.drewN hB' _⟩
end Go.Proofs.Ytgfcindkfnjeoaa
