/-
  What is proved here: the document's Same of layer 10 tells whether two manifests are the same.
  Conditions: those that the fact names.
-/
import Derived.Test.YtgfcindkfnjeoaaJRefManSame
namespace Go.Proofs.Ytgfcindkfnjeoaa
open Go.RowKit

/-- Whether two manifests are the same. -/
def sameMM (m n : MM) : Bool := (m.v == n.v) && ((m.s == n.s) && ((m.c == n.c) && ((m.h == n.h) && (m.u == n.u))))
theorem words_same {U T : List (BitVec 32)} (hl : U.length = T.length) (h : ∀ j (h1 : j < U.length) (h2 : j < T.length), j < U.length → U[j] = T[j]) : U = T := List.ext_getElem hl fun j h1 h2 => h j h1 h2 h1
set_option maxRecDepth 100000 in
set_option maxHeartbeats 4000000 in
theorem rsameG_any (m n : MM) (su su' : Value) (w : World) (hh : m.h.length = 32) (hn : n.h.length = 32) (hm : m.u.length ≤ maxLen) (hu : Wds w su m.u) (hu' : Wds w su' n.u) :
    Calls Try.prog 29 #[manV m su, manV n su'] w fun e w' => e = .returned (.bool (sameMM m n)) ∧ Below w.heap.size w w' := by
  have hmx : m.u.length ≤ 9223372036854775807 := hm
  clear hm
  have hB : Below w.heap.size w ((w.alloc (.cells (manC m su) 25)).alloc (.cells (manC n su') 25)) := ((Below.refl _ _).alloc (Nat.le_refl _) _).alloc (by simp) _
  have k2 := (Blk.new w 25 (manC m su)).alloc (.cells (manC n su') 25)
  have k3 : Blk ((w.alloc (.cells (manC m su) 25)).alloc (.cells (manC n su') 25)) (w.heap.size + 1) 25 (manC n su') := Blk.newAt _ _ _ _ (by simp)
  have a0 := k2.cell (manC_0 m su)
  have a1 := k2.cell (manC_1 m su)
  have a2 := k2.cell (manC_2 m su)
  have a35 := k2.cell (manC_35 m su hh)
  have b0 := k3.cell (manC_0 n su')
  have b1 := k3.cell (manC_1 n su')
  have b2 := k3.cell (manC_2 n su')
  have b35 := k3.cell (manC_35 n su' hn)
  have ra := man_range m su _ _ k2
  have rb := man_range n su' _ _ k3
  have hu1 := hu.below hB (Nat.le_refl _)
  have hu2 := hu'.below hB (Nat.le_refl _)
  have hil : (Try.prog.info? 22).map (·.size) = some (m.h.map v8).length := by rw [List.length_map, hh]; kernel_rfl
  have hir : (Try.prog.info? 22).map (·.size) = some (n.h.map v8).length := by rw [List.length_map, hn]; kernel_rfl
  have heq : ∀ V, (Op.equalIn 10000 22 (.agg (m.h.map v8).toArray) (.agg (n.h.map v8).toArray)).run Try.prog V = .ok (m.h == n.h) V := fun V => run_equalIn_bytes (P := Try.prog) V 9998 22 5 32 Try.underlying22 Try.underlying5 (fun w => by kernel_rfl) m.h n.h hh hn
  have HSM : Hid (sameMM m n = ((m.v == n.v) && ((m.s == n.s) && ((m.c == n.c) && ((m.h == n.h) && (m.u == n.u)))))) := rfl
  rw [HSM.out]
  obtain ⟨ao, c, rfl⟩ := hu.shape
  obtain ⟨ao', c', rfl⟩ := hu'.shape
  clear hu hu' hh hn k2 k3 HSM
  unfold manV
  generalize manC m (.slice ao m.u.length c) = MA at *
  generalize manC n (.slice ao' n.u.length c') = MB at *
  generalize (m.h == n.h) = EH at *
  generalize m.h.map v8 = HL at *
  generalize n.h.map v8 = HR at *
  generalize m.v = v at *
  generalize m.s = sz at *
  generalize m.c = ch at *
  generalize m.u = U at *
  generalize n.v = v' at *
  generalize n.s = sz' at *
  generalize n.c = ch' at *
  generalize n.u = T at *
  by_cases h0 : v = v'
  rotate_left
  · have q0 : (v == v') = false := beq_eq_false_iff_ne.2 h0
    have r0 : (v != v') = true := by simp [h0]
    rw [q0]
    simp only [Bool.false_and]
    clear hu1 hu2 h0
    go_enter Try.func29, Try.ntmps29
    generalize hW0 : (w.alloc (.cells MA 25)).alloc (.cells MB 25) = W0 at *
    go_wp2_with (first | (refine loadmid_guarded rfl 22 _ rfl w.heap.size 3 rfl HL _ (by first | exact ra | (rw [hW0]; exact ra)) Try.underlying22 rfl hil ?_) | (refine loadmid_guarded rfl 22 _ rfl (w.heap.size + 1) 3 rfl HR _ (by first | exact rb | (rw [hW0]; exact rb)) Try.underlying22 rfl hir ?_))
    go_ret
    exact ⟨rfl, hB⟩
  have q0 : (v == v') = true := beq_iff_eq.2 h0
  have r0 : (v != v') = false := by simp [h0]
  rw [q0]
  simp only [Bool.true_and]
  clear h0 q0
  by_cases h1 : sz = sz'
  rotate_left
  · have q1 : (sz == sz') = false := beq_eq_false_iff_ne.2 h1
    have r1 : (sz != sz') = true := by simp [h1]
    rw [q1]
    simp only [Bool.false_and]
    clear hu1 hu2 h1
    go_enter Try.func29, Try.ntmps29
    generalize hW0 : (w.alloc (.cells MA 25)).alloc (.cells MB 25) = W0 at *
    go_wp2_with (first | (refine loadmid_guarded rfl 22 _ rfl w.heap.size 3 rfl HL _ (by first | exact ra | (rw [hW0]; exact ra)) Try.underlying22 rfl hil ?_) | (refine loadmid_guarded rfl 22 _ rfl (w.heap.size + 1) 3 rfl HR _ (by first | exact rb | (rw [hW0]; exact rb)) Try.underlying22 rfl hir ?_))
    go_ret
    exact ⟨rfl, hB⟩
  have q1 : (sz == sz') = true := beq_iff_eq.2 h1
  have r1 : (sz != sz') = false := by simp [h1]
  rw [q1]
  simp only [Bool.true_and]
  clear h1 q1
  by_cases h2 : ch = ch'
  rotate_left
  · have q2 : (ch == ch') = false := beq_eq_false_iff_ne.2 h2
    have r2 : (ch != ch') = true := by simp [h2]
    rw [q2]
    simp only [Bool.false_and]
    clear hu1 hu2 h2
    go_enter Try.func29, Try.ntmps29
    generalize hW0 : (w.alloc (.cells MA 25)).alloc (.cells MB 25) = W0 at *
    go_wp2_with (first | (refine loadmid_guarded rfl 22 _ rfl w.heap.size 3 rfl HL _ (by first | exact ra | (rw [hW0]; exact ra)) Try.underlying22 rfl hil ?_) | (refine loadmid_guarded rfl 22 _ rfl (w.heap.size + 1) 3 rfl HR _ (by first | exact rb | (rw [hW0]; exact rb)) Try.underlying22 rfl hir ?_))
    go_ret
    exact ⟨rfl, hB⟩
  have q2 : (ch == ch') = true := beq_iff_eq.2 h2
  have r2 : (ch != ch') = false := by simp [h2]
  rw [q2]
  simp only [Bool.true_and]
  clear h2 q2
  cases EH with
  | false =>
    simp only [Bool.false_and]
    clear hu1 hu2
    go_enter Try.func29, Try.ntmps29
    generalize hW0 : (w.alloc (.cells MA 25)).alloc (.cells MB 25) = W0 at *
    go_wp2_with (first | (refine loadmid_guarded rfl 22 _ rfl w.heap.size 3 rfl HL _ (by first | exact ra | (rw [hW0]; exact ra)) Try.underlying22 rfl hil ?_) | (refine loadmid_guarded rfl 22 _ rfl (w.heap.size + 1) 3 rfl HR _ (by first | exact rb | (rw [hW0]; exact rb)) Try.underlying22 rfl hir ?_))
    go_ret
    exact ⟨rfl, hB⟩
  | true =>
  simp only [Bool.true_and]
  by_cases hl : U.length = T.length
  rotate_left
  · have r4 : ((U.length : Int) != (T.length : Int)) = true := by
      rw [bne_iff_ne]
      exact fun h => hl (by omega)
    have q4 : (U == T) = false := beq_eq_false_iff_ne.2 fun h => hl (by rw [h])
    rw [q4]
    clear hu1 hu2 hl q4
    go_enter Try.func29, Try.ntmps29
    generalize hW0 : (w.alloc (.cells MA 25)).alloc (.cells MB 25) = W0 at *
    go_wp2_with (first | (refine loadmid_guarded rfl 22 _ rfl w.heap.size 3 rfl HL _ (by first | exact ra | (rw [hW0]; exact ra)) Try.underlying22 rfl hil ?_) | (refine loadmid_guarded rfl 22 _ rfl (w.heap.size + 1) 3 rfl HR _ (by first | exact rb | (rw [hW0]; exact rb)) Try.underlying22 rfl hir ?_))
    go_ret
    exact ⟨rfl, hB⟩
  have r4 : ((U.length : Int) != (T.length : Int)) = false := by rw [hl]; simp
  go_enter Try.func29, Try.ntmps29
  generalize hW0 : (w.alloc (.cells MA 25)).alloc (.cells MB 25) = W0 at *
  go_wp2_with (first | (refine loadmid_guarded rfl 22 _ rfl w.heap.size 3 rfl HL _ (by first | exact ra | (rw [hW0]; exact ra)) Try.underlying22 rfl hil ?_) | (refine loadmid_guarded rfl 22 _ rfl (w.heap.size + 1) 3 rfl HR _ (by first | exact rb | (rw [hW0]; exact rb)) Try.underlying22 rfl hir ?_))
  have hB' : Below w.heap.size w W0 := hB
  clear hW0 ra rb heq hil hir a0 a1 a2 b0 b1 b2 hB r0 r1 r2 r4
  obtain ⟨_, _, e1, hr1⟩ := hu1
  cases e1
  obtain ⟨_, _, e2, hr2⟩ := hu2
  cases e2
  have HR1 : Hid (0 < U.length → ∃ b off, ao = some ⟨b, off, none⟩ ∧ U.length ≤ c ∧ WRow W0 b off U ∧ b < W0.heap.size) := hr1
  have HR2 : Hid (0 < T.length → ∃ b off, ao' = some ⟨b, off, none⟩ ∧ T.length ≤ c' ∧ WRow W0 b off T ∧ b < W0.heap.size) := hr2
  have HL0 : Hid (U.length = T.length) := hl
  clear hr1 hr2 hl
  go_loopw [5] (fun i wr => ∃ I n : Nat, I ≤ U.length ∧ i = .int .i64 (I : Int) ∧ wr = W0.drewN n ∧ Hid (∀ j (h1 : j < U.length) (h2 : j < T.length), j < I → U[j] = T[j])) (fun i _ => U.length - (intOf i).toNat)
  case atStart => exact ⟨0, 0, Nat.zero_le _, rfl, rfl, fun j _ _ h => absurd h (Nat.not_lt_zero _)⟩
  case round =>
    obtain ⟨I, n, hI, rfl, rfl, HS⟩ := hrel
    by_cases hlt : I < U.length
    · have hlt2 : I < T.length := by have := HL0.out; omega
      obtain ⟨b, off, rfl, hc, hrow, hb⟩ := HR1.out (by omega)
      obtain ⟨b', off', rfl, hc', hrow', hb'⟩ := HR2.out (by omega)
      have x1 : W0.cell? ⟨b, off + I, none⟩ = some (v32 U[I]) := hrow I hlt
      have x2 : W0.cell? ⟨b', off' + I, none⟩ = some (v32 T[I]) := hrow' I hlt2
      have i1 : (I : Int) < (U.length : Int) := by omega
      obtain ⟨y, hy⟩ : ∃ y, y = U[I] := ⟨_, rfl⟩
      obtain ⟨y', hy'⟩ : ∃ y', y' = T[I] := ⟨_, rfl⟩
      rw [← hy] at x1
      rw [← hy'] at x2
      have HY : Hid (y = U[I] ∧ y' = T[I]) := ⟨hy, hy'⟩
      clear hrow hrow' hy hy' HR1 HR2
      by_cases hyy : y = y'
      · subst hyy
        go_wp2_with fail
        go_quiet (fail)
        go_wp2
        go_roundw
        case rel => exact ⟨I + 1, _, hlt, by go_num, rfl, fun j h1 h2 h3 => by
          rcases Nat.lt_succ_iff_lt_or_eq.1 h3 with h | h
          · exact HS.out j h1 h2 h
          · subst h
            exact HY.out.1.symm.trans HY.out.2⟩
        case measure => simp only [intOf]; omega
      · have q5 : (U == T) = false := beq_eq_false_iff_ne.2 fun h => hyy (by obtain ⟨e1, e2⟩ := HY.out; subst h; exact e1.trans e2.symm)
        have r5 : (n32 y != n32 y') = true := by
          rw [bne_iff_ne]
          exact fun h => hyy (BitVec.eq_of_toNat_eq (by unfold n32 at h; omega))
        have HQ : Hid ((U == T) = false) := q5
        clear q5 hyy HY HS
        go_wp2_with fail
        go_quiet (fail)
        go_wp2
        go_ret
        exact ⟨ret_bool HQ.out.symm, Below.drewN (Below.drewN hB' _) _⟩
    · have i1 : ¬ (I : Int) < (U.length : Int) := by omega
      have q5 : (U == T) = true := beq_iff_eq.2 (words_same HL0.out fun j h1 h2 _ => HS.out j h1 h2 (by omega))
      have HQ : Hid ((U == T) = true) := q5
      clear HR1 HR2 q5 HS
      go_wp2
      go_ret
      exact ⟨ret_bool HQ.out.symm, Below.drewN hB' _⟩
end Go.Proofs.Ytgfcindkfnjeoaa
