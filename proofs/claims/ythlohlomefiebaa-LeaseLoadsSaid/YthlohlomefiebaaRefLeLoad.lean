/-
  What is proved here: the document's Load makes a table of leases, or tells that there is none.
  Conditions: the leases lie in memory.
-/
import Derived.Test.YthlohlomefiebaaLeLoad
import Derived.Test.YthlohlomefiebaaRefLe
namespace Go.Proofs.Ythlohlomefiebaa
open Go.RowKit Go.Maps

theorem may_iff (l : List LE) (e : LE) : mayT l e = true ↔ e.n = (l.length : Int) + 1 ∧ deT e.d = true ∧ 0 ≤ e.u ∧ e.u ≤ 1099512676352 ∧ ∀ f ∈ l, ¬ (0 < e.u ∧ 0 < f.u ∧ e.d = f.d) := by
  unfold mayT tiT
  simp only [Bool.and_eq_true, Bool.or_eq_true, Bool.not_eq_true', beq_iff_eq, decide_eq_true_eq, decide_eq_false_iff_not]
  have h0 : (openD l e.d).isSome = false ↔ ∀ f ∈ l, ¬ (f.d = e.d ∧ 0 < f.u) := by
    rw [← openD_none]
    cases openD l e.d <;> simp
  rw [h0]
  constructor
  · rintro ⟨⟨⟨h1, h2⟩, h3⟩, h4⟩
    refine ⟨h1, h2, h3.1, h3.2, fun f hf k => ?_⟩
    rcases h4 with h4 | h4
    · exact h4 f hf ⟨k.2.2.symm, k.2.1⟩
    · exact h4 k.1
  · rintro ⟨h1, h2, h3, h4, h5⟩
    refine ⟨⟨⟨h1, h2⟩, h3, h4⟩, ?_⟩
    by_cases hu : 0 < e.u
    · exact .inl (fun f hf k => h5 f hf ⟨hu, k.2, k.1.symm⟩)
    · exact .inr hu
theorem not_can {l : List LE} {k : Nat} (hk : k < l.length) (h : mayT (l.take k) (l.getD k noLE) = false) : canT l = false := by
  cases hc : canT l with
  | false => rfl
  | true =>
    have := ((canT_iff l).1 hc).2 k hk
    rw [h] at this
    cases this
theorem may_false {l : List LE} {e : LE} (h : ¬ mayT l e = true) : mayT l e = false := by
  cases hm : mayT l e with
  | false => rfl
  | true => exact absurd hm h
set_option maxRecDepth 100000 in
set_option maxHeartbeats 8000000 in
theorem rload16_any {w : World} {x : Value} {l : List LE} (hx : LeIn w x l) : Calls Try.prog 15 #[x] w fun e w' => ((canT l = true ∧ ∃ G v, e = .returned (.tuple #[.pointer (some ⟨G, 0, none⟩), .int .i64 0]) ∧ RfT w' w.heap.size G v l) ∨ (canT l = false ∧ e = .returned (.tuple #[.pointer none, .int .i64 1]))) ∧ Below w.heap.size w w' := by
  have HR : Hid (∀ i, i < l.length → ∃ b off c, x = .slice (some ⟨b, off, none⟩) l.length c ∧ b < w.heap.size ∧ w.cell? ⟨b, off + i * 3, none⟩ = some (.int .i64 (l.getD i noLE).n) ∧ w.cell? ⟨b, off + i * 3 + 1, none⟩ = some (.int .i64 (l.getD i noLE).d) ∧ w.cell? ⟨b, off + i * 3 + 2, none⟩ = some (.int .i64 (l.getD i noLE).u)) := fun i hi => by
    obtain ⟨b, off, c, h1, _, h2, h3⟩ := hx.form (by omega)
    have he : l[i]? = some (l.getD i noLE) := by rw [List.getD_eq_getElem?_getD, List.getElem?_eq_getElem hi]; rfl
    exact ⟨b, off, c, h1, h2, cells_le (h3 i _ he)⟩
  have HIN : Hid (LeIn w x l) := hx
  obtain ⟨ax, cx, rfl⟩ := hx.shape
  clear hx
  by_cases h20 : 20000 < l.length
  · have d1 : decide ((20000 : Int) < (l.length : Int)) = true := decide_eq_true (by omega)
    have HN : Hid (canT l = false) := by
      show _ = _
      cases hc : canT l with
      | false => rfl
      | true => have := ((canT_iff l).1 hc).1; omega
    clear h20
    go_enter Try.func15, Try.ntmps15
    go_wp2
    go_ret2
    exact ⟨.inr ⟨HN.out, rfl⟩, Below.refl _ _⟩
  have d1 : decide ((20000 : Int) < (l.length : Int)) = false := decide_eq_false (by omega)
  have HL : Hid (l.length ≤ 20000) := by show _ ≤ _; omega
  have hll : l.length ≤ 20000 := HL.out
  clear h20
  go_enter Try.func15, Try.ntmps15
  go_wp2_with fail
  go_loopw [4] (fun i wr => ∃ k : Nat, i = .int .i64 (k : Int) ∧ k ≤ l.length ∧ Hid (∀ i, i < k → mayT (l.take i) (l.getD i noLE) = true) ∧ Below w.heap.size w wr) (fun i _ => l.length - (Go.RowKit.intOf i).toNat)
  case atStart => exact ⟨0, rfl, Nat.zero_le _, fun i hi => absurd hi (Nat.not_lt_zero i), Below.refl _ _⟩
  case round =>
    obtain ⟨k, rfl, hk, HM, hB⟩ := hrel
    by_cases hlt : k < l.length
    · obtain ⟨bd, off, c', hxx, hbd, q0, q1, q2⟩ := HR.out k hlt
      cases hxx
      have HC : Hid (∀ V, Below w.heap.size w V → V.cell? ⟨bd, off + k * 3, none⟩ = some (.int .i64 (l.getD k noLE).n) ∧ V.cell? ⟨bd, off + k * 3 + 1, none⟩ = some (.int .i64 (l.getD k noLE).d) ∧ V.cell? ⟨bd, off + k * 3 + 2, none⟩ = some (.int .i64 (l.getD k noLE).u)) := fun V hV => ⟨(hV.cell (p := ⟨bd, off + k * 3, none⟩) hbd).trans q0, (hV.cell (p := ⟨bd, off + k * 3 + 1, none⟩) hbd).trans q1, (hV.cell (p := ⟨bd, off + k * 3 + 2, none⟩) hbd).trans q2⟩
      obtain ⟨k0, k1, k2⟩ := HC.out wr hB
      have ix := fun w => index_le bd off l.length cx k w hlt
      have HMI := may_iff (l.take k) (l.getD k noLE)
      rw [List.length_take, Nat.min_eq_left (by omega)] at HMI
      have HNC : Hid (mayT (l.take k) (l.getD k noLE) = false → canT l = false) := fun h => not_can hlt h
      have HD := fun W => rdev16_any (l.getD k noLE).d W
      have hwk : wrap64 ((k : Int) + 1) = (k : Int) + 1 := by unfold wrap64; omega
      have HEE : Hid (∃ e, e = l.getD k noLE) := ⟨_, rfl⟩
      clear q0 q1 q2
      obtain ⟨e, hee⟩ := HEE.out
      rw [← hee] at k0 k1 k2 HC HMI HNC HD
      have HEQ : Hid (e = l.getD k noLE) := hee
      clear hee HEE
      by_cases h1 : e.n = (k : Int) + 1
      · have e1 : (e.n != (k : Int) + 1) = false := by rw [h1]; exact bne_self_eq_false _
        cases h2 : deT e.d with
        | false =>
          rw [h2] at HD
          have HN : Hid (canT l = false) := HNC.out (may_false (fun h => by have := (HMI.1 h).2.1; rw [h2] at this; cases this))
          clear HMI HNC h1 h2
          go_wp2_with fail
          refine (HD wr).mono ?_
          rintro e' w' ⟨rfl, rfl⟩
          go_wp2
          go_ret2
          exact ⟨.inr ⟨HN.out, rfl⟩, hB⟩
        | true =>
          rw [h2] at HD
          by_cases h3 : e.u < 0
          · have e3 : decide (e.u < 0) = true := decide_eq_true h3
            have HN : Hid (canT l = false) := HNC.out (may_false (fun h => by have := (HMI.1 h).2.2.1; omega))
            clear HMI HNC h1 h2 h3
            go_wp2_with fail
            refine (HD wr).mono ?_
            rintro e' w' ⟨rfl, rfl⟩
            go_wp2
            go_ret2
            exact ⟨.inr ⟨HN.out, rfl⟩, hB⟩
          · have e3 : decide (e.u < 0) = false := decide_eq_false h3
            by_cases h4 : 1099512676352 < e.u
            · have e4 : decide (1099512676352 < e.u) = true := decide_eq_true h4
              have HN : Hid (canT l = false) := HNC.out (may_false (fun h => by have := (HMI.1 h).2.2.2.1; omega))
              clear HMI HNC h1 h2 h3 h4
              go_wp2_with fail
              refine (HD wr).mono ?_
              rintro e' w' ⟨rfl, rfl⟩
              go_wp2
              go_ret2
              exact ⟨.inr ⟨HN.out, rfl⟩, hB⟩
            · have e4 : decide (1099512676352 < e.u) = false := decide_eq_false h4
              have HMJ : Hid (mayT (l.take k) e = true ↔ ∀ f ∈ l.take k, ¬ (0 < e.u ∧ 0 < f.u ∧ e.d = f.d)) := by
                show _ ↔ _
                rw [HMI]
                exact ⟨fun h => h.2.2.2.2, fun h => ⟨h1, h2, by omega, by omega, h⟩⟩
              clear HMI h1 h2 h3 h4
              go_wp2_with fail
              refine (HD wr).mono ?_
              rintro e' w' ⟨rfl, rfl⟩
              clear HD
              have HB : Hid (Below w.heap.size w w') := hB
              clear hB
              go_wp2_with fail
              clear k0 k1 k2
              go_loopw [6] (fun i wr => ∃ m : Nat, i = .int .i64 (m : Int) ∧ m ≤ k ∧ Hid (∀ f ∈ l.take m, ¬ (0 < e.u ∧ 0 < f.u ∧ e.d = f.d)) ∧ Below w.heap.size w wr) (fun i _ => k - (Go.RowKit.intOf i).toNat)
              case atStart => exact ⟨0, rfl, Nat.zero_le _, fun f hf => (by simp at hf), HB.out⟩
              case round =>
                obtain ⟨m, rfl, hm, HX, hB⟩ := hrel
                by_cases hmk : m < k
                · have hml : m < l.length := by omega
                  obtain ⟨bd', off', c', hxx, hbd', q0, q1, q2⟩ := HR.out m hml
                  cases hxx
                  obtain ⟨k0, k1, k2⟩ := HC.out wr hB
                  have m1 : wr.cell? ⟨bd, off + m * 3 + 1, none⟩ = some (.int .i64 (l.getD m noLE).d) := (hB.cell (p := ⟨bd, off + m * 3 + 1, none⟩) hbd).trans q1
                  have m2 : wr.cell? ⟨bd, off + m * 3 + 2, none⟩ = some (.int .i64 (l.getD m noLE).u) := (hB.cell (p := ⟨bd, off + m * 3 + 2, none⟩) hbd).trans q2
                  have ix := fun w => index_le bd off l.length cx k w hlt
                  have iy := fun w => index_le bd off l.length cx m w hml
                  have hwm : wrap64 ((m : Int) + 1) = (m : Int) + 1 := by unfold wrap64; omega
                  have HFM : Hid (l.take (m + 1) = l.take m ++ [l.getD m noLE]) := by
                    show _ = _
                    rw [List.take_add_one, List.getElem?_eq_getElem hml, List.getD_eq_getElem?_getD, List.getElem?_eq_getElem hml]
                    rfl
                  have HFK : Hid (l.getD m noLE ∈ l.take k) := by
                    refine List.mem_iff_getElem?.2 ⟨m, ?_⟩
                    rw [List.getElem?_take_of_lt hmk, List.getElem?_eq_getElem hml, List.getD_eq_getElem?_getD, List.getElem?_eq_getElem hml]
                    rfl
                  clear q0 q1 q2 hbd'
                  generalize l.getD m noLE = f at *
                  have HG : Hid (¬ (0 < e.u ∧ 0 < f.u ∧ e.d = f.d) → ∀ g ∈ l.take (m + 1), ¬ (0 < e.u ∧ 0 < g.u ∧ e.d = g.d)) := fun h g hg => by
                    rw [HFM.out] at hg
                    rcases List.mem_append.1 hg with h1 | h1
                    · exact HX.out g h1
                    · rw [List.mem_singleton.1 h1]; exact h
                  by_cases u1 : 0 < e.u
                  · have g1 : decide (0 < e.u) = true := decide_eq_true u1
                    by_cases u2 : 0 < f.u
                    · have g2 : decide (0 < f.u) = true := decide_eq_true u2
                      by_cases u3 : e.d = f.d
                      · have g3 : (e.d == f.d) = true := beq_iff_eq.2 u3
                        have HN : Hid (canT l = false) := HNC.out (may_false (fun h => HMJ.out.1 h f HFK.out ⟨u1, u2, u3⟩))
                        clear u1 u2 u3 HG
                        obtain ⟨en, ed, eu⟩ := e
                        obtain ⟨fn, fd, fu⟩ := f
                        dsimp only at *
                        go_wp2_with fail
                        go_quiet (fail)
                        go_wp2
                        go_ret2
                        exact ⟨.inr ⟨HN.out, rfl⟩, Below.drewN hB _⟩
                      · have g3 : (e.d == f.d) = false := beq_eq_false_iff_ne.2 u3
                        have HG2 : Hid (∀ g ∈ l.take (m + 1), ¬ (0 < e.u ∧ 0 < g.u ∧ e.d = g.d)) := HG.out (fun h => u3 h.2.2)
                        clear u1 u2 u3 HG
                        obtain ⟨en, ed, eu⟩ := e
                        obtain ⟨fn, fd, fu⟩ := f
                        dsimp only at *
                        go_wp2_with fail
                        go_quiet (fail)
                        go_wp2
                        go_roundw
                        case rel => exact ⟨m + 1, by go_num, hmk, HG2.out, Below.drewN hB _⟩
                        case measure => simp [Go.RowKit.intOf]; omega
                    · have g2 : decide (0 < f.u) = false := decide_eq_false u2
                      have HG2 : Hid (∀ g ∈ l.take (m + 1), ¬ (0 < e.u ∧ 0 < g.u ∧ e.d = g.d)) := HG.out (fun h => u2 h.2.1)
                      clear u1 u2 HG
                      obtain ⟨en, ed, eu⟩ := e
                      obtain ⟨fn, fd, fu⟩ := f
                      dsimp only at *
                      go_wp2_with fail
                      go_quiet (fail)
                      go_wp2
                      go_roundw
                      case rel => exact ⟨m + 1, by go_num, hmk, HG2.out, Below.drewN hB _⟩
                      case measure => simp [Go.RowKit.intOf]; omega
                  · have g1 : decide (0 < e.u) = false := decide_eq_false u1
                    have HG2 : Hid (∀ g ∈ l.take (m + 1), ¬ (0 < e.u ∧ 0 < g.u ∧ e.d = g.d)) := HG.out (fun h => u1 h.1)
                    clear u1 HG
                    obtain ⟨en, ed, eu⟩ := e
                    obtain ⟨fn, fd, fu⟩ := f
                    dsimp only at *
                    go_wp2_with fail
                    go_quiet (fail)
                    go_wp2
                    go_roundw
                    case rel => exact ⟨m + 1, by go_num, hmk, HG2.out, Below.drewN hB _⟩
                    case measure => simp [Go.RowKit.intOf]; omega
                · have hmk2 : m = k := by omega
                  have hni : ¬ (m : Int) < (k : Int) := by omega
                  have HM2 : Hid (∀ i, i < k + 1 → mayT (l.take i) (l.getD i noLE) = true) := fun i hi => by
                    by_cases hik : i = k
                    · have h1 := HX.out
                      rw [hmk2] at h1
                      rw [hik, ← HEQ.out]
                      exact HMJ.out.2 h1
                    · exact HM.out i (by omega)
                  clear hmk hmk2
                  go_wp2
                  go_roundw
                  case rel => exact ⟨k + 1, by go_num, hlt, HM2.out, hB⟩
                  case measure => simp [Go.RowKit.intOf]; omega
      · have e1 : (e.n != (k : Int) + 1) = true := bne_iff_ne.2 h1
        have HN : Hid (canT l = false) := HNC.out (may_false (fun h => h1 (HMI.1 h).1))
        clear HMI HNC h1
        generalize deT e.d = DD at *
        go_wp2_with fail
        refine (HD wr).mono ?_
        rintro e' w' ⟨rfl, rfl⟩
        go_wp2
        go_ret2
        exact ⟨.inr ⟨HN.out, rfl⟩, hB⟩
    · have hkl : k = l.length := by omega
      have hni : ¬ (k : Int) < (l.length : Int) := by omega
      have HCT : Hid (canT l = true) := (canT_iff l).2 ⟨HL.out, fun i hi => HM.out i (by omega)⟩
      have hB8 := below_newE wr (.cells #[] 43)
      obtain ⟨v', W', happ, hr1, hr2, hr3⟩ := (empty_le wr wr.heap.size wr.heap.size rfl (Nat.le_refl _)).app ((HIN.out.after hB (Nat.le_refl _)).after hB8 (Nat.le_refl _)) (by show 0 + l.length ≤ _; omega) hB8.size
      rw [List.nil_append] at hr1
      obtain ⟨av, cv, rfl⟩ := hr1.shape
      have hB9 : Below wr.heap.size wr W' := hB8.trans (hr3.below (fun k e => by cases e; exact Nat.le_refl _) hB8.size)
      have HOK : Hid (OkT l) := by
        have hall : ∀ j, j ≤ l.length → OkT (l.take j) := fun j => by
          induction j with
          | zero => exact fun _ => by rw [List.take_zero]; exact OkT.nil
          | succ j ih =>
            intro hj
            have h1 := (may_ok (ih (by omega)) (by rw [List.length_take]; have := HL.out; omega) (HM.out j (by omega))).1
            have h2 : l.take (j + 1) = l.take j ++ [l.getD j noLE] := by
              rw [List.take_add_one, List.getElem?_eq_getElem (by omega), List.getD_eq_getElem?_getD, List.getElem?_eq_getElem (by omega)]
              rfl
            rw [h2]
            exact h1
        have := hall l.length (Nat.le_refl _)
        rwa [List.take_length] at this
      have HF : Hid (RfT (W'.alloc (.cells #[.slice av l.length cv] 29)) w.heap.size W'.heap.size (.slice av l.length cv) l ∧ Below w.heap.size w (W'.alloc (.cells #[.slice av l.length cv] 29))) := by
        refine ⟨⟨Blk.new W' _ _, (hr1.mono hB.size).after (below_newE W' _) (Nat.le_refl _), HOK.out, Nat.le_trans hB.size hB9.size, fun e => ?_⟩, (hB.trans (hB9.mono hB.size)).alloc (Nat.le_trans hB.size hB9.size) _⟩
        have := (hr1.lt _ e).2
        omega
      clear hr1 hr2 hr3 hB8 hB9 hkl hlt
      go_wp2_with (refine wp_appE rfl _ _ rfl _ _ (.slice av l.length cv) rfl rfl happ ?_)
      go_ret2
      exact ⟨.inl ⟨HCT.out, _, rfl, _, HF.out.1⟩, HF.out.2⟩
end Go.Proofs.Ythlohlomefiebaa
