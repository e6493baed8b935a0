/-
  What is proved here: mayBeNext tells whether a lease may be the next one; Load makes a table of leases, or tells that there is none.
  Conditions: the table, and the leases, lie in memory.
-/
import Derived.Test.YthlohlomefiebaaLeExp
import Derived.BigQuiet
import Derived.Deep.QuietTactic
namespace Go.Proofs.Ythlohlomefiebaa
open Go.RowKit Go.Maps

def tiT (n : Int) : Bool := decide (0 ≤ n ∧ n ≤ 1099512676352)
/-- May such a lease be the next one? -/
def mayT (l : List LE) (e : LE) : Bool := (e.n == (l.length : Int) + 1) && deT e.d && tiT e.u && (!(openD l e.d).isSome || !decide (0 < e.u))
theorem may_ok {l : List LE} (ok : OkT l) (hl : l.length < 20000) {e : LE} (h : mayT l e = true) : OkT (l ++ [e]) ∧ (0 < e.u → openD l e.d = none) := by
  unfold mayT deT tiT at h
  simp only [Bool.and_eq_true, Bool.or_eq_true, Bool.not_eq_true', beq_iff_eq, decide_eq_true_eq, decide_eq_false_iff_not] at h
  obtain ⟨⟨⟨h1, h2⟩, h3⟩, h4⟩ := h
  have ho : 0 < e.u → openD l e.d = none := fun hu => by
    rcases h4 with k | k
    · cases hO : openD l e.d with
      | none => rfl
      | some f => rw [hO] at k; cases k
    · exact absurd hu k
  refine ⟨?_, ho⟩
  have := ok.snoc hl e.d e.u h2 h3 ho
  have e2 : e = ⟨(l.length : Int) + 1, e.d, e.u⟩ := LE.ext' h1 rfl rfl
  rw [e2]
  exact this
set_option maxRecDepth 100000 in
set_option maxHeartbeats 4000000 in
theorem may16_any {w : World} {lo G b : Nat} {v : Value} {l : List LE} (h : LeT w lo G b v l) (e : LE) : Calls Try.prog 29 #[.pointer (some ⟨G, 0, none⟩), leV e] w fun r w' => r = .returned (.bool (mayT l e)) ∧ Below w.heap.size w w' := by
  obtain ⟨en, ed, eu⟩ := e
  have hB := below_newE w (.cells #[.int .i64 en, .int .i64 ed, .int .i64 eu] 43)
  have hh := h.after hB (Nat.le_refl _)
  have KN : ∀ j, Calls Try.prog 35 #[.pointer (some ⟨G, 0, none⟩)] ((w.alloc (.cells #[.int .i64 en, .int .i64 ed, .int .i64 eu] 43)).drewN j) fun r w' => r = .returned (.int .i64 ((l.length : Int) + 1)) ∧ w' = (w.alloc (.cells #[.int .i64 en, .int .i64 ed, .int .i64 eu] 43)).drewN j := fun j => next16_any (hh.after (Below.drewN (Below.refl _ _) j) (Nat.le_refl _))
  have KD : ∀ j, Calls Try.prog 32 #[.int .i64 ed] ((w.alloc (.cells #[.int .i64 en, .int .i64 ed, .int .i64 eu] 43)).drewN j) fun r w' => r = .returned (.bool (deT ed)) ∧ w' = (w.alloc (.cells #[.int .i64 en, .int .i64 ed, .int .i64 eu] 43)).drewN j := fun j => dev16_any ed _
  have KI : ∀ j, Calls Try.prog 40 #[.int .i64 eu, .int .i64 0, .int .i64 1099512676352] ((w.alloc (.cells #[.int .i64 en, .int .i64 ed, .int .i64 eu] 43)).drewN j) fun r w' => r = .returned (.bool (tiT eu)) ∧ w' = (w.alloc (.cells #[.int .i64 en, .int .i64 ed, .int .i64 eu] 43)).drewN j := fun j => in16_any eu 0 1099512676352 _
  have HB : Hid (∀ j, Below w.heap.size w ((w.alloc (.cells #[.int .i64 en, .int .i64 ed, .int .i64 eu] 43)).drewN j)) := fun j => Below.drewN hB j
  have HH : Hid (LeT (w.alloc (.cells #[.int .i64 en, .int .i64 ed, .int .i64 eu] 43)) lo G b v l) := hh
  have HI := fun W => is16_any ⟨en, ed, eu⟩ W
  unfold mayT
  unfold leV leL at *
  dsimp only at *
  clear h hh hB
  by_cases h1 : en = (l.length : Int) + 1
  · have d1 : (en == (l.length : Int) + 1) = true := beq_iff_eq.2 h1
    have d1' : (en != (l.length : Int) + 1) = false := by rw [bne, d1]; rfl
    rw [d1]
    clear h1
    have c1 : ∀ j, ((w.alloc (.cells #[.int .i64 en, .int .i64 ed, .int .i64 eu] 43)).drewN j).cell? ⟨G, 1, none⟩ = some (.map (some b)) := fun j => (HH.out.head.drewN j).cell (j := 1) rfl
    generalize (l.length : Int) + 1 = LN at *
    cases h2 : deT ed with
    | false =>
      rw [h2] at KD
      clear h2 KI HI HH c1
      go_enter Try.func29, Try.ntmps29
      go_wp2_with fail
      go_quiet (first | (go_at_call 35; refine Calls.quiet_of_same (KN _)) | (go_at_call 32; refine Calls.quiet_of_same (KD _)) | (go_at_call 40; refine Calls.quiet_of_same (KI _)))
      go_wp2
      go_ret
      exact ⟨rfl, HB.out _⟩
    | true =>
      have hDE : 1 ≤ ed ∧ ed ≤ 4096 := of_decide_eq_true h2
      have HDE : Hid (1 ≤ ed ∧ ed ≤ 4096) := hDE
      clear hDE
      rw [h2] at KD
      clear h2
      cases h3 : tiT eu with
      | false =>
        rw [h3] at KI
        clear h3 HI HH c1
        go_enter Try.func29, Try.ntmps29
        go_wp2_with fail
        go_quiet (first | (go_at_call 35; refine Calls.quiet_of_same (KN _)) | (go_at_call 32; refine Calls.quiet_of_same (KD _)) | (go_at_call 40; refine Calls.quiet_of_same (KI _)))
        go_wp2
        go_ret
        exact ⟨rfl, HB.out _⟩
      | true =>
        rw [h3] at KI
        clear h3
        have hlk : ∀ j, (Instr.lookup 49 (.map (some b)) (.int .i64 ed) true).run Try.prog ((w.alloc (.cells #[.int .i64 en, .int .i64 ed, .int .i64 eu] 43)).drewN j) = .ok (.tuple #[.int .i64 (numOf l ed), .bool (openD l ed).isSome]) ((w.alloc (.cells #[.int .i64 en, .int .i64 ed, .int .i64 eu] 43)).drewN j) := fun j => by
          obtain ⟨m, D, hown, hH, _⟩ := HH.out.map
          exact look_okE (own_chgE hown (Chg.of_below (Below.drewN (Below.refl _ _) j) (Nat.le_refl _)) (S := fun _ => False) id) hH ed (by have := HDE.out; omega) (by have := HDE.out; omega)
        generalize numOf l ed = NN at *
        cases h4 : (openD l ed).isSome with
        | false =>
          rw [h4] at hlk
          clear h4 HI HH
          go_enter Try.func29, Try.ntmps29
          go_wp2_with fail
          go_quiet (first | (go_at_call 35; refine Calls.quiet_of_same (KN _)) | (go_at_call 32; refine Calls.quiet_of_same (KD _)) | (go_at_call 40; refine Calls.quiet_of_same (KI _)))
          go_wp2_with fail
          go_quiet (fail)
          go_wp2
          go_ret
          exact ⟨rfl, HB.out _⟩
        | true =>
          rw [h4] at hlk
          clear h4 HH
          have x0 : (w.alloc (.cells #[.int .i64 en, .int .i64 ed, .int .i64 eu] 43)).cell? ⟨w.heap.size, 0, none⟩ = some (.int .i64 en) := (Blk.new w 43 #[.int .i64 en, .int .i64 ed, .int .i64 eu]).cell (j := 0) rfl
          have x1 : (w.alloc (.cells #[.int .i64 en, .int .i64 ed, .int .i64 eu] 43)).cell? ⟨w.heap.size, 1, none⟩ = some (.int .i64 ed) := (Blk.new w 43 #[.int .i64 en, .int .i64 ed, .int .i64 eu]).cell (j := 1) rfl
          have x2 : (w.alloc (.cells #[.int .i64 en, .int .i64 ed, .int .i64 eu] 43)).cell? ⟨w.heap.size, 2, none⟩ = some (.int .i64 eu) := (Blk.new w 43 #[.int .i64 en, .int .i64 ed, .int .i64 eu]).cell (j := 2) rfl
          generalize decide (0 < eu) = DU at *
          have HB5 : Hid (∀ j w5, Below ((w.alloc (.cells #[.int .i64 en, .int .i64 ed, .int .i64 eu] 43)).drewN j).heap.size ((w.alloc (.cells #[.int .i64 en, .int .i64 ed, .int .i64 eu] 43)).drewN j) w5 → Below w.heap.size w w5) := fun j w5 hb => (HB.out j).trans (hb.mono (HB.out j).size)
          go_enter Try.func29, Try.ntmps29
          go_wp2_with fail
          go_quiet (first | (go_at_call 35; refine Calls.quiet_of_same (KN _)) | (go_at_call 32; refine Calls.quiet_of_same (KD _)) | (go_at_call 40; refine Calls.quiet_of_same (KI _)))
          go_wp2_with fail
          go_quiet (fail)
          go_wp2_with fail
          refine (HI _).mono ?_
          rintro e w5 ⟨rfl, hb5⟩
          have HB6 := HB5.out _ w5 hb5
          cases DU with
          | true =>
            go_wp2
            go_ret
            exact ⟨rfl, HB6⟩
          | false =>
            go_wp2
            go_ret
            exact ⟨rfl, HB6⟩
  · have d1 : (en == (l.length : Int) + 1) = false := beq_eq_false_iff_ne.2 h1
    have d1' : (en != (l.length : Int) + 1) = true := by rw [bne, d1]; rfl
    rw [d1]
    clear h1 KD KI HI HH
    generalize (l.length : Int) + 1 = LN at *
    go_enter Try.func29, Try.ntmps29
    go_wp2_with fail
    go_quiet (first | (go_at_call 35; refine Calls.quiet_of_same (KN _)) | (go_at_call 32; refine Calls.quiet_of_same (KD _)) | (go_at_call 40; refine Calls.quiet_of_same (KI _)))
    go_wp2
    go_ret
    exact ⟨rfl, HB.out _⟩
end Go.Proofs.Ythlohlomefiebaa
