/-
  What is proved here: the statement LeaseRenews is true of any device and any pairs of numbers.
  Conditions: they lie in memory.
-/
import Derived.Test.YthlohlomefiebaaLeAwake
import Derived.Test.YthlohlomefiebaaLeSteps
import Derived.BigQuiet
import Derived.Deep.QuietTactic
namespace Go.Proofs.Ythlohlomefiebaa
open Go.RowKit Go.Maps

theorem index_p16 (b off len c I : Nat) (w : World) (h : I < len) : (Instr.indexAt 53 (.slice (some ⟨b, off, none⟩) len c) (.int .i64 (I : Int))).run Try.prog w = .ok (.pointer (some ⟨b, off + I * 2, none⟩)) w := by
  have hs : ∀ w, (sizeOf 54).run Try.prog w = .ok 2 w := fun w => by kernel_rfl
  have hi : (0 : Int) ≤ (I : Int) ∧ (I : Int) < (len : Int) := by omega
  simp [Instr.indexAt, asIntOf, run_underlying Try.underlying53, hs, hi, Addr.add_mid]
  intro h2
  omega
theorem index_a16 (b o k : Nat) (hk : k < 2) (w : World) : (Instr.indexAt 54 (.pointer (some ⟨b, o, none⟩)) (.int .i64 (k : Int))).run Try.prog w = .ok (.pointer (some ⟨b, o + k, none⟩)) w := by
  have hs : ∀ w, (sizeOf 3).run Try.prog w = .ok 1 w := fun w => by kernel_rfl
  have hi : (0 : Int) ≤ (k : Int) ∧ (k : Int) < 2 := by omega
  simp [Instr.indexAt, Instr.sureAddr, asIntOf, run_underlying Try.underlying54, hs, hi, Addr.add_mid]
  intro h2
  omega
theorem exec_allocE {a : Act} {o : Oper} {w : World} (ho : o.op = .alloc 43) : (execOp a.eval o).run Try.prog w = .ok (.value (.pointer (some ⟨w.heap.size, 0, none⟩))) (w.alloc (.cells #[.int .i64 0, .int .i64 0, .int .i64 0] 43)) := by
  unfold execOp
  simp [ho, go_sem]
theorem ren_bad (e : LE) (a c : Int) (h : moT a = false ∨ liT c = false) : renewT [e] 1 a c = ((noLE, 1), [e]) := by
  unfold renewT
  rw [if_pos h]
theorem ren_opn (e : LE) (h : 0 < e.u) : opnT [e] 1 = some e := by
  unfold opnT atT
  simp [h]
theorem ren_over (e : LE) (a c : Int) (hu : 0 < e.u) (h1 : moT a = true) (h2 : liT c = true) (h : e.u ≤ a) : renewT [e] 1 a c = ((noLE, 9), [e]) := by
  unfold renewT
  rw [h1, h2, if_neg (by decide), ren_opn e hu]
  show (if e.u ≤ a then _ else _) = _
  rw [if_pos h]
theorem ren_ok (e : LE) (a c : Int) (hu : 0 < e.u) (h1 : moT a = true) (h2 : liT c = true) (h : ¬ e.u ≤ a) : renewT [e] 1 a c = ((⟨e.n, e.d, max e.u (a + c)⟩, 0), [⟨e.n, e.d, max e.u (a + c)⟩]) := by
  unfold renewT
  rw [h1, h2, if_neg (by decide), ren_opn e hu]
  show (if e.u ≤ a then _ else _) = _
  rw [if_neg h]
  rfl
theorem ren_of (d u : Int) (hu : 0 < u) : ofT [⟨1, d, u⟩] d = (⟨1, d, u⟩, true) := by
  unfold ofT openD
  simp [hu]
set_option maxRecDepth 100000 in
set_option maxHeartbeats 4000000 in
theorem leaseRenews_any (dv : Int) (x : Value) (ps : List (Int × Int)) (w : World) (hdv : -9223372036854775808 ≤ dv ∧ dv ≤ 9223372036854775807) (hx : Prs16 w x ps) : Calls Try.prog 7 #[.int .i64 dv, x] w fun e w' => e = .returned (.bool true) ∧ Below w.heap.size w w' := by
  have HR : Hid (0 < ps.length → ∃ b off c, x = .slice (some ⟨b, off, none⟩) ps.length c ∧ b < w.heap.size ∧ ∀ (i : Nat) p, ps[i]? = some p → w.cell? ⟨b, off + i * 2, none⟩ = some (.int .i64 p.1) ∧ w.cell? ⟨b, off + i * 2 + 1, none⟩ = some (.int .i64 p.2)) := fun h => by
    obtain ⟨b, off, c, h1, _, h2, h3⟩ := RowIn.form hx h
    exact ⟨b, off, c, h1, h2, fun i p hp => ⟨h3 i p hp 0 _ rfl, h3 i p hp 1 _ rfl⟩⟩
  have HDV : Hid (-9223372036854775808 ≤ dv ∧ dv ≤ 9223372036854775807) := hdv
  obtain ⟨ax, cx, rfl⟩ := RowIn.shape hx
  clear hx hdv
  go_enter Try.func7, Try.ntmps7
  go_wp2_with fail
  refine (awake16_any w).mono ?_
  rintro e w1 ⟨rfl, hB1⟩
  go_wp2_with fail
  refine (new16_any w1).mono ?_
  rintro e w2 ⟨G, b, rfl, hT, hb2⟩
  have hB2 : Below w.heap.size w w2 := hB1.trans (hb2.mono hB1.size)
  have HS : Hid (w.heap.size ≤ w1.heap.size) := hB1.size
  have HGR := grant16_any hT hb2.size dv 100 50 HDV.out.1 HDV.out.2
  have HGE : Hid (∀ q, LeM G b (.slice none 0 0) q → w1.heap.size ≤ q) := hT.ge
  clear hT hb2 hB1
  by_cases hde : deT dv = false
  · have HG2 : Hid (Calls Try.prog 16 #[.pointer (some ⟨G, 0, none⟩), .int .i64 dv, .int .i64 100, .int .i64 50] w2 fun e w' => e = .returned (.tuple #[.agg #[.int .i64 0, .int .i64 0, .int .i64 0], .int .i64 1]) ∧ Below w.heap.size w w') := by
      have : grantT [] dv 100 50 = ((noLE, 1), []) := by unfold grantT; rw [if_pos (.inl hde)]
      rw [this] at HGR
      exact HGR.mono (fun e w' ⟨q1, v', q2, q3, q4⟩ => ⟨q1, hB2.trans (q4.below (fun q hq => Nat.le_trans HS.out (HGE.out q hq)) hB2.size)⟩)
    clear HGR hde hB2
    go_wp2_with fail
    refine HG2.out.mono ?_
    rintro e w3 ⟨rfl, hb3⟩
    have hb4 := low_new hb3 (.cells #[.int .i64 0, .int .i64 0, .int .i64 0] 43)
    clear HG2
    go_wp2
    go_ret
    exact ⟨rfl, hb4⟩
  have hde1 : deT dv = true := by simpa using hde
  have hg : grantT [] dv 100 50 = ((⟨1, dv, 150⟩, 0), [⟨1, dv, 150⟩]) := by
    unfold grantT
    rw [hde1, if_neg (by decide)]
    rfl
  rw [hg] at HGR
  unfold leV leL at HGR
  dsimp only at HGR
  clear hg hde hde1
  go_wp2_with fail
  refine HGR.mono ?_
  rintro e w3 ⟨rfl, v, hT3, hf3, hC3⟩
  have hbX := below_newE w3 (.cells #[.int .i64 1, .int .i64 dv, .int .i64 150] 43)
  have hTX := hT3.after hbX (Nat.le_refl _)
  have kX := Blk.new w3 43 #[.int .i64 1, .int .i64 dv, .int .i64 150]
  have hBX : Below w.heap.size w (w3.alloc (.cells #[.int .i64 1, .int .i64 dv, .int .i64 150] 43)) := low_new (hB2.trans (hC3.below (fun q hq => Nat.le_trans HS.out (HGE.out q hq)) hB2.size)) _
  have HGV : Hid (∀ q, LeM G b v q → w1.heap.size ≤ q) := hT3.ge
  have HNX : Hid (¬ LeM G b v w3.heap.size) := hT3.fresh (Nat.le_refl _)
  obtain ⟨LX, hLX⟩ : ∃ n, n = w3.heap.size := ⟨_, rfl⟩
  rw [← hLX] at kX HNX
  have HLW0 : Hid (w.heap.size ≤ LX) := by show _ ≤ _; rw [hLX]; exact (hB2.trans (hC3.below (fun q hq => Nat.le_trans HS.out (HGE.out q hq)) hB2.size)).size
  clear hT3 hf3 hC3 hbX HGR hB2 HGE
  go_wp2_with fail
  rw [← hLX]
  clear hLX
  generalize w3.alloc (.cells #[.int .i64 1, .int .i64 dv, .int .i64 150] 43) = w4 at *
  go_loopw [9] (fun i wr => ∃ (k : Nat) (U : Int), i = .int .i64 (k : Int) ∧ k ≤ ps.length ∧ k ≤ 60 ∧ Hid (0 < U) ∧ Hid (LeT wr w1.heap.size G b v [⟨1, dv, U⟩]) ∧ Hid (Blk wr LX 43 #[.int .i64 1, .int .i64 dv, .int .i64 U]) ∧ Below w.heap.size w wr) (fun i _ => 60 - (Go.RowKit.intOf i).toNat)
  case atStart => exact ⟨0, 150, rfl, Nat.zero_le _, Nat.zero_le _, by show (0 : Int) < 150; omega, hTX, kX, hBX⟩
  case round =>
    clear hTX kX hBX
    obtain ⟨k, U, rfl, hk, hk60, HU, HT, HX, hB⟩ := hrel
    by_cases hlt : k < ps.length
    · by_cases h60 : k < 60
      · obtain ⟨bd, off, c', hxx, hbd, hr⟩ := HR.out (by omega)
        cases hxx
        obtain ⟨hp0, hp1⟩ := hr k _ (List.getElem?_eq_getElem hlt)
        have HCA : Hid (∀ V, Below w.heap.size w V → V.cell? ⟨bd, off + k * 2, none⟩ = some (.int .i64 ps[k].1)) := fun V hV => (hV.cell (p := ⟨bd, off + k * 2, none⟩) hbd).trans hp0
        have HCC : Hid (∀ V, Below w.heap.size w V → V.cell? ⟨bd, off + k * 2 + 1, none⟩ = some (.int .i64 ps[k].2)) := fun V hV => (hV.cell (p := ⟨bd, off + k * 2 + 1, none⟩) hbd).trans hp1
        have ix := fun w => index_p16 bd off ps.length cx k w hlt
        have HIX : Hid (∀ w, (Instr.indexAt 53 (.slice (some ⟨bd, off, none⟩) ps.length cx) (.int .i64 (k : Int))).run Try.prog w = .ok (.pointer (some ⟨bd, off + k * 2, none⟩)) w) := ix
        have a1 := HCA.out wr hB
        have c1 := HCC.out wr hB
        have HBW : Hid (Below w.heap.size w wr) := hB
        clear hr hp0 hp1
        generalize ps[k].1 = a at *
        generalize ps[k].2 = c at *
        have HSV : Hid (∀ V, Below w.heap.size w V → V.cell? ⟨bd, off + k * 2, none⟩ = some (.int .i64 a) ∧ V.cell? ⟨bd, off + k * 2 + 1, none⟩ = some (.int .i64 c)) := fun V hV => ⟨HCA.out V hV, HCC.out V hV⟩
        have hS0 : (fun V : World => V.cell? ⟨bd, off + k * 2, none⟩ = some (.int .i64 a) ∧ V.cell? ⟨bd, off + k * 2 + 1, none⟩ = some (.int .i64 c)) wr.drew := ⟨a1, c1⟩
        have HLW : Hid (w.heap.size ≤ LX) := HLW0.out
        clear a1 c1 hB
        by_cases m0 : (0 : Int) ≤ a
        · have d0 : decide ((0 : Int) ≤ a) = true := decide_eq_true m0
          by_cases m1 : a ≤ 1099511627776
          · have d1 : decide (a ≤ 1099511627776) = true := decide_eq_true m1
            by_cases m2 : (1 : Int) ≤ c
            · have d2 : decide ((1 : Int) ≤ c) = true := decide_eq_true m2
              by_cases m3 : c ≤ 1048576
              · have d3 : decide (c ≤ 1048576) = true := decide_eq_true m3
                have hmo : moT a = true := decide_eq_true ⟨m0, m1⟩
                have hli : liT c = true := decide_eq_true ⟨m2, m3⟩
                by_cases hov : U ≤ a
                · have dov : decide (U ≤ a) = true := decide_eq_true hov
                  have HMU : Hid (0 < U) := HU.out
                  have HRN : Hid (∀ W, Below wr.heap.size wr W → Calls Try.prog 17 #[.pointer (some ⟨G, 0, none⟩), .int .i64 1, .int .i64 a, .int .i64 c] W fun e w' => e = .returned (.tuple #[.agg #[.int .i64 0, .int .i64 0, .int .i64 0], .int .i64 9]) ∧ LeT w' w1.heap.size G b v [⟨1, dv, U⟩] ∧ Chg (LeM G b v) W w') := fun W hW => by
                    have := renew16_any (HT.out.after hW (Nat.le_refl _)) 1 a c
                    rw [ren_over _ a c HU.out hmo hli hov] at this
                    exact this
                  have HRA : Hid (Calls Try.prog 17 #[.pointer (some ⟨G, 0, none⟩), .int .i64 1, .int .i64 a, .int .i64 c] (wr.drew.alloc (.cells #[.int .i64 0, .int .i64 0, .int .i64 0] 43)) fun e w' => e = .returned (.tuple #[.agg #[.int .i64 0, .int .i64 0, .int .i64 0], .int .i64 9]) ∧ LeT w' w1.heap.size G b v [⟨1, dv, U⟩] ∧ Blk w' LX 43 #[.int .i64 1, .int .i64 dv, .int .i64 U] ∧ Below w.heap.size w w' ∧ Blk w' wr.drew.heap.size 43 #[.int .i64 0, .int .i64 0, .int .i64 0] ∧ LX ≠ wr.drew.heap.size ∧ ¬ LeM G b v wr.drew.heap.size) := (HRN.out _ (((Below.refl _ wr).drew).alloc (Nat.le_refl _) _)).mono (fun e w' ⟨q1, q2, q3⟩ => ⟨q1, q2, ((HX.out.drew).below (below_newE wr.drew _) HX.out.lt).chg q3 HNX.out, (low_new HBW.out.drew _).trans (q3.below (fun q hq => Nat.le_trans HS.out (HGV.out q hq)) (low_new HBW.out.drew (.cells #[.int .i64 0, .int .i64 0, .int .i64 0] 43)).size), (Blk.new wr.drew 43 #[.int .i64 0, .int .i64 0, .int .i64 0]).chg q3 (HT.out.fresh (Nat.le_refl _)), Nat.ne_of_lt HX.out.lt, HT.out.fresh (Nat.le_refl _)⟩)
                  have HRB : Hid (Calls Try.prog 17 #[.pointer (some ⟨G, 0, none⟩), .int .i64 1, .int .i64 a, .int .i64 c] wr.drew fun e w' => e = .returned (.tuple #[.agg #[.int .i64 0, .int .i64 0, .int .i64 0], .int .i64 9]) ∧ LeT w' w1.heap.size G b v [⟨1, dv, U⟩] ∧ Blk w' LX 43 #[.int .i64 1, .int .i64 dv, .int .i64 U] ∧ Below w.heap.size w w') := (HRN.out _ (Below.refl _ _).drew).mono (fun e w' ⟨q1, q2, q3⟩ => ⟨q1, q2, (HX.out.drew).chg q3 HNX.out, (HBW.out.drew).trans (q3.below (fun q hq => Nat.le_trans HS.out (HGV.out q hq)) HBW.out.size)⟩)
                  clear HRN m0 m1 m2 m3 hmo hli hov
                  go_wp2_with fail
                  refine held_begin (fun V => V.cell? ⟨bd, off + k * 2, none⟩ = some (.int .i64 a) ∧ V.cell? ⟨bd, off + k * 2 + 1, none⟩ = some (.int .i64 c)) (by kernel_rfl) ?_
                  refine held_take 0 45 _ (.pointer (some ⟨G, 0, none⟩)) rfl rfl (by kernel_rfl) (by kernel_rfl) (by kernel_rfl) rfl hS0 (fun _ _ => rfl) ?_
                  simp only [Act.put, List.setIfInBounds_toArray, List.set_cons_succ, List.set_cons_zero]
                  refine held_take 1 46 _ (.slice (some ⟨bd, off, none⟩) ps.length cx) rfl rfl (by kernel_rfl) (by kernel_rfl) (by kernel_rfl) rfl hS0 (fun _ _ => rfl) ?_
                  simp only [Act.put, List.setIfInBounds_toArray, List.set_cons_succ, List.set_cons_zero]
                  refine held_take 2 47 _ (.int .i64 (k : Int)) rfl rfl (by kernel_rfl) (by kernel_rfl) (by kernel_rfl) rfl hS0 (fun _ _ => rfl) ?_
                  simp only [Act.put, List.setIfInBounds_toArray, List.set_cons_succ, List.set_cons_zero]
                  refine held_take 3 48 _ (.pointer (some ⟨bd, off + k * 2, none⟩)) rfl rfl (by kernel_rfl) (by kernel_rfl) (by kernel_rfl) rfl hS0 (fun V hV => exec_indexat 53 _ _ rfl (.slice (some ⟨bd, off, none⟩) ps.length cx) (.int .i64 (k : Int)) _ rfl rfl (HIX.out V)) ?_
                  simp only [Act.put, List.setIfInBounds_toArray, List.set_cons_succ, List.set_cons_zero]
                  refine held_take 4 49 _ (.pointer (some ⟨bd, off + k * 2, none⟩)) rfl rfl (by kernel_rfl) (by kernel_rfl) (by kernel_rfl) rfl hS0 (fun V hV => exec_indexat 54 _ _ rfl (.pointer (some ⟨bd, off + k * 2, none⟩)) (.int .i64 0) _ rfl rfl (index_a16 bd (off + k * 2) 0 (by omega) V)) ?_
                  simp only [Act.put, List.setIfInBounds_toArray, List.set_cons_succ, List.set_cons_zero]
                  refine held_take 5 50 _ (.int .i64 a) rfl rfl (by kernel_rfl) (by kernel_rfl) (by kernel_rfl) rfl hS0 (fun V hV => exec_loadc 3 _ rfl _ _ rfl (load_one 3 (fun _ => by kernel_rfl) V _ _ _ hV.1)) ?_
                  simp only [Act.put, List.setIfInBounds_toArray, List.set_cons_succ, List.set_cons_zero]
                  refine held_take 6 51 _ (.slice (some ⟨bd, off, none⟩) ps.length cx) rfl rfl (by kernel_rfl) (by kernel_rfl) (by kernel_rfl) rfl hS0 (fun _ _ => rfl) ?_
                  simp only [Act.put, List.setIfInBounds_toArray, List.set_cons_succ, List.set_cons_zero]
                  refine held_take 7 52 _ (.int .i64 (k : Int)) rfl rfl (by kernel_rfl) (by kernel_rfl) (by kernel_rfl) rfl hS0 (fun _ _ => rfl) ?_
                  simp only [Act.put, List.setIfInBounds_toArray, List.set_cons_succ, List.set_cons_zero]
                  refine held_take 8 53 _ (.pointer (some ⟨bd, off + k * 2, none⟩)) rfl rfl (by kernel_rfl) (by kernel_rfl) (by kernel_rfl) rfl hS0 (fun V hV => exec_indexat 53 _ _ rfl (.slice (some ⟨bd, off, none⟩) ps.length cx) (.int .i64 (k : Int)) _ rfl rfl (HIX.out V)) ?_
                  simp only [Act.put, List.setIfInBounds_toArray, List.set_cons_succ, List.set_cons_zero]
                  refine held_take 9 54 _ (.pointer (some ⟨bd, off + k * 2 + 1, none⟩)) rfl rfl (by kernel_rfl) (by kernel_rfl) (by kernel_rfl) rfl hS0 (fun V hV => exec_indexat 54 _ _ rfl (.pointer (some ⟨bd, off + k * 2, none⟩)) (.int .i64 1) _ rfl rfl (index_a16 bd (off + k * 2) 1 (by omega) V)) ?_
                  simp only [Act.put, List.setIfInBounds_toArray, List.set_cons_succ, List.set_cons_zero]
                  refine held_take 10 55 _ (.int .i64 c) rfl rfl (by kernel_rfl) (by kernel_rfl) (by kernel_rfl) rfl hS0 (fun V hV => exec_loadc 3 _ rfl _ _ rfl (load_one 3 (fun _ => by kernel_rfl) V _ _ _ hV.2)) ?_
                  simp only [Act.put, List.setIfInBounds_toArray, List.set_cons_succ, List.set_cons_zero]
                  refine held_all2 11 15 (by kernel_rfl) ?_ ?_
                  · refine op_call 11 56 _ 17 #[.pointer (some ⟨G, 0, none⟩), .int .i64 1, .int .i64 a, .int .i64 c] rfl rfl rfl (exec_four8 17 _ _ _ _ _ rfl _ _ _ _ rfl rfl rfl rfl Try.call17) (HRB.out.mono ?_)
                    rintro e w3 ⟨rfl, hT3, hX3, hB3⟩
                    refine ⟨_, rfl, HSV.out w3 hB3, ?_⟩
                    simp only [Act.put, List.setIfInBounds_toArray, List.set_cons_succ, List.set_cons_zero]
                    refine held_take 12 44 _ (.tuple #[.agg #[.int .i64 0, .int .i64 0, .int .i64 0], .int .i64 9]) rfl rfl (by kernel_rfl) (by kernel_rfl) (by kernel_rfl) rfl (HSV.out w3 hB3) (fun _ _ => rfl) ?_
                    simp only [Act.put, List.setIfInBounds_toArray, List.set_cons_succ, List.set_cons_zero]
                    refine held_take 13 57 _ (.agg #[.int .i64 0, .int .i64 0, .int .i64 0]) rfl rfl (by kernel_rfl) (by kernel_rfl) (by kernel_rfl) rfl (HSV.out w3 hB3) (fun _ _ => rfl) ?_
                    simp only [Act.put, List.setIfInBounds_toArray, List.set_cons_succ, List.set_cons_zero]
                    refine held_take 14 58 _ (.int .i64 9) rfl rfl (by kernel_rfl) (by kernel_rfl) (by kernel_rfl) rfl (HSV.out w3 hB3) (fun _ _ => rfl) ?_
                    simp only [Act.put, List.setIfInBounds_toArray, List.set_cons_succ, List.set_cons_zero]
                    refine held_all1 15 (by kernel_rfl) (op_value 15 10 _ (.pointer (some ⟨w3.heap.size, 0, none⟩)) (w3.alloc (.cells #[.int .i64 0, .int .i64 0, .int .i64 0] 43)) rfl rfl rfl (exec_allocE rfl) ⟨(HSV.out _ (low_new hB3 _)), ?_⟩)
                    simp only [Act.put, List.setIfInBounds_toArray, List.set_cons_succ, List.set_cons_zero]
                    refine held_all1 16 (by kernel_rfl) (op_row 16 _ rfl rfl rfl 43 _ _ rfl (w3.heap.size) #[.int .i64 0, .int .i64 0, .int .i64 0] rfl rfl 43 _ (Blk.new w3 43 #[.int .i64 0, .int .i64 0, .int .i64 0]) info_le rfl (by simp [Value.oneCell']) ?_)
                    intro W4 hY4 hg4 _
                    have hT4 := (hT3.after (below_newE w3 _) (Nat.le_refl _)).store hg4 (hT3.fresh (Nat.le_refl _))
                    have hX4 := (hX3.below (below_newE w3 _) hX3.lt).chg (S := fun q => q = w3.heap.size) (Chg.of_grown hg4 (fun q e => (Option.some.inj e).symm)) (Nat.ne_of_lt hX3.lt)
                    have hB4 : Below w.heap.size w W4 := below_grown (low_new hB3 _) hg4 (low_new hB3 _).size (fun q hq => by cases hq; exact hB3.size)
                    refine ⟨HSV.out W4 hB4, ?_⟩
                    refine held_take 17 11 _ (.int .i64 9) rfl rfl (by kernel_rfl) (by kernel_rfl) (by kernel_rfl) rfl (HSV.out W4 hB4) (fun _ _ => rfl) ?_
                    simp only [Act.put, List.setIfInBounds_toArray, List.set_cons_succ, List.set_cons_zero]
                    refine wpAnyH_done (by kernel_rfl) ?_ _
                    refine NoPanic.normal ?_
                    clear hT3 hX3 hB3 hg4
                    have a4 := HCA.out W4 hB4
                    have c4 := HCC.out W4 hB4
                    have x0 : W4.cell? ⟨LX, 0, none⟩ = some (.int .i64 1) := hX4.cell (j := 0) rfl
                    have x1 : W4.cell? ⟨LX, 1, none⟩ = some (.int .i64 dv) := hX4.cell (j := 1) rfl
                    have x2 : W4.cell? ⟨LX, 2, none⟩ = some (.int .i64 U) := hX4.cell (j := 2) rfl
                    have HX4 : Hid (Blk W4 LX 43 #[.int .i64 1, .int .i64 dv, .int .i64 U]) := hX4
                    have HT4 : Hid (LeT W4 w1.heap.size G b v [⟨1, dv, U⟩]) := hT4
                    have HB4 : Hid (Below w.heap.size w W4) := hB4
                    have y0 : W4.cell? ⟨w3.heap.size, 0, none⟩ = some (.int .i64 0) := hY4.cell (j := 0) rfl
                    have y1 : W4.cell? ⟨w3.heap.size, 1, none⟩ = some (.int .i64 0) := hY4.cell (j := 1) rfl
                    have y2 : W4.cell? ⟨w3.heap.size, 2, none⟩ = some (.int .i64 0) := hY4.cell (j := 2) rfl
                    clear hX4 hT4 hB4 hY4
                    go_wp2_with fail
                    go_quiet (fail)
                    
                    go_wp2_with fail
                    go_quiet (fail)
                    generalize hW5 : World.drewN _ _ = w5
                    have hT5 : LeT w5 w1.heap.size G b v [⟨1, dv, U⟩] := by rw [← hW5]; exact HT4.out.after (Below.drewN (Below.drewN (Below.refl _ _) _) _) (Nat.le_refl _)
                    have kX5 : Blk w5 LX 43 #[.int .i64 1, .int .i64 dv, .int .i64 U] := by rw [← hW5]; exact Blk.drewN (Blk.drewN HX4.out _) _
                    have hB5 : Below w.heap.size w w5 := by rw [← hW5]; exact Below.drewN (Below.drewN HB4.out _) _
                    
                    have HOF := of16_any hT5 dv HDV.out.1 HDV.out.2
                    rw [ren_of dv U HMU.out] at HOF
                    unfold leV leL at HOF
                    dsimp only at HOF
                    have HT5 : Hid (LeT w5 w1.heap.size G b v [⟨1, dv, U⟩]) := hT5
                    have HX5 : Hid (Blk w5 LX 43 #[.int .i64 1, .int .i64 dv, .int .i64 U]) := kX5
                    have HB5 : Hid (Below w.heap.size w w5) := hB5
                    clear hT5 kX5 hB5
                    go_wp2_with fail
                    refine HOF.mono ?_
                    rintro e w6 ⟨rfl, hb6⟩
                    have hbn := low_new hb6 (.cells #[.int .i64 1, .int .i64 dv, .int .i64 U] 43)
                    have q0 := (HX5.out.below hbn HX5.out.lt).cell (j := 0) rfl
                    have q1 := (HX5.out.below hbn HX5.out.lt).cell (j := 1) rfl
                    have q2 := (HX5.out.below hbn HX5.out.lt).cell (j := 2) rfl
                    have HBN : Hid (Below w5.heap.size w5 (w6.alloc (.cells #[.int .i64 1, .int .i64 dv, .int .i64 U] 43))) := hbn
                    clear hbn hb6 HOF
                    go_wp2
                    go_roundw
                    case rel => exact ⟨k + 1, U, by go_num, hlt, h60, HMU.out, HT5.out.after HBN.out (Nat.le_refl _), HX5.out.below HBN.out HX5.out.lt, HB5.out.trans (HBN.out.mono HB5.out.size)⟩
                    case measure => simp [Go.RowKit.intOf]; omega
                  · refine op_value 15 10 _ (.pointer (some ⟨wr.drew.heap.size, 0, none⟩)) (wr.drew.alloc (.cells #[.int .i64 0, .int .i64 0, .int .i64 0] 43)) rfl rfl rfl (exec_allocE rfl) ⟨(HSV.out _ (low_new HBW.out.drew _)), ?_⟩
                    simp only [Act.put, List.setIfInBounds_toArray, List.set_cons_succ, List.set_cons_zero]
                    refine held_all1 11 (by kernel_rfl) (op_call 11 56 _ 17 #[.pointer (some ⟨G, 0, none⟩), .int .i64 1, .int .i64 a, .int .i64 c] rfl rfl rfl (exec_four8 17 _ _ _ _ _ rfl _ _ _ _ rfl rfl rfl rfl Try.call17) (HRA.out.mono ?_))
                    rintro e w3 ⟨rfl, hT3, hX3, hB3, hY3, hn1, hn2⟩
                    refine ⟨_, rfl, HSV.out w3 hB3, ?_⟩
                    simp only [Act.put, List.setIfInBounds_toArray, List.set_cons_succ, List.set_cons_zero]
                    refine held_take 12 44 _ (.tuple #[.agg #[.int .i64 0, .int .i64 0, .int .i64 0], .int .i64 9]) rfl rfl (by kernel_rfl) (by kernel_rfl) (by kernel_rfl) rfl (HSV.out w3 hB3) (fun _ _ => rfl) ?_
                    simp only [Act.put, List.setIfInBounds_toArray, List.set_cons_succ, List.set_cons_zero]
                    refine held_take 13 57 _ (.agg #[.int .i64 0, .int .i64 0, .int .i64 0]) rfl rfl (by kernel_rfl) (by kernel_rfl) (by kernel_rfl) rfl (HSV.out w3 hB3) (fun _ _ => rfl) ?_
                    simp only [Act.put, List.setIfInBounds_toArray, List.set_cons_succ, List.set_cons_zero]
                    refine held_take 14 58 _ (.int .i64 9) rfl rfl (by kernel_rfl) (by kernel_rfl) (by kernel_rfl) rfl (HSV.out w3 hB3) (fun _ _ => rfl) ?_
                    simp only [Act.put, List.setIfInBounds_toArray, List.set_cons_succ, List.set_cons_zero]
                    refine held_all1 16 (by kernel_rfl) (op_row 16 _ rfl rfl rfl 43 _ _ rfl (wr.drew.heap.size) #[.int .i64 0, .int .i64 0, .int .i64 0] rfl rfl 43 _ hY3 info_le rfl (by simp [Value.oneCell']) ?_)
                    intro W4 hY4 hg4 _
                    have hT4 := hT3.store hg4 hn2
                    have hX4 := hX3.chg (S := fun q => q = wr.drew.heap.size) (Chg.of_grown hg4 (fun q e => (Option.some.inj e).symm)) hn1
                    have hB4 : Below w.heap.size w W4 := below_grown hB3 hg4 hB3.size (fun q hq => by cases hq; exact HBW.out.size)
                    refine ⟨HSV.out W4 hB4, ?_⟩
                    refine held_take 17 11 _ (.int .i64 9) rfl rfl (by kernel_rfl) (by kernel_rfl) (by kernel_rfl) rfl (HSV.out W4 hB4) (fun _ _ => rfl) ?_
                    simp only [Act.put, List.setIfInBounds_toArray, List.set_cons_succ, List.set_cons_zero]
                    refine wpAnyH_done (by kernel_rfl) ?_ _
                    refine NoPanic.normal ?_
                    clear hT3 hX3 hB3 hg4 hY3 hn1 hn2
                    have a4 := HCA.out W4 hB4
                    have c4 := HCC.out W4 hB4
                    have x0 : W4.cell? ⟨LX, 0, none⟩ = some (.int .i64 1) := hX4.cell (j := 0) rfl
                    have x1 : W4.cell? ⟨LX, 1, none⟩ = some (.int .i64 dv) := hX4.cell (j := 1) rfl
                    have x2 : W4.cell? ⟨LX, 2, none⟩ = some (.int .i64 U) := hX4.cell (j := 2) rfl
                    have HX4 : Hid (Blk W4 LX 43 #[.int .i64 1, .int .i64 dv, .int .i64 U]) := hX4
                    have HT4 : Hid (LeT W4 w1.heap.size G b v [⟨1, dv, U⟩]) := hT4
                    have HB4 : Hid (Below w.heap.size w W4) := hB4
                    have y0 : W4.cell? ⟨wr.heap.size, 0, none⟩ = some (.int .i64 0) := hY4.cell (j := 0) rfl
                    have y1 : W4.cell? ⟨wr.heap.size, 1, none⟩ = some (.int .i64 0) := hY4.cell (j := 1) rfl
                    have y2 : W4.cell? ⟨wr.heap.size, 2, none⟩ = some (.int .i64 0) := hY4.cell (j := 2) rfl
                    clear hX4 hT4 hB4 hY4
                    go_wp2_with fail
                    go_quiet (fail)
                    
                    go_wp2_with fail
                    go_quiet (fail)
                    generalize hW5 : World.drewN _ _ = w5
                    have hT5 : LeT w5 w1.heap.size G b v [⟨1, dv, U⟩] := by rw [← hW5]; exact HT4.out.after (Below.drewN (Below.drewN (Below.refl _ _) _) _) (Nat.le_refl _)
                    have kX5 : Blk w5 LX 43 #[.int .i64 1, .int .i64 dv, .int .i64 U] := by rw [← hW5]; exact Blk.drewN (Blk.drewN HX4.out _) _
                    have hB5 : Below w.heap.size w w5 := by rw [← hW5]; exact Below.drewN (Below.drewN HB4.out _) _
                    
                    have HOF := of16_any hT5 dv HDV.out.1 HDV.out.2
                    rw [ren_of dv U HMU.out] at HOF
                    unfold leV leL at HOF
                    dsimp only at HOF
                    have HT5 : Hid (LeT w5 w1.heap.size G b v [⟨1, dv, U⟩]) := hT5
                    have HX5 : Hid (Blk w5 LX 43 #[.int .i64 1, .int .i64 dv, .int .i64 U]) := kX5
                    have HB5 : Hid (Below w.heap.size w w5) := hB5
                    clear hT5 kX5 hB5
                    go_wp2_with fail
                    refine HOF.mono ?_
                    rintro e w6 ⟨rfl, hb6⟩
                    have hbn := low_new hb6 (.cells #[.int .i64 1, .int .i64 dv, .int .i64 U] 43)
                    have q0 := (HX5.out.below hbn HX5.out.lt).cell (j := 0) rfl
                    have q1 := (HX5.out.below hbn HX5.out.lt).cell (j := 1) rfl
                    have q2 := (HX5.out.below hbn HX5.out.lt).cell (j := 2) rfl
                    have HBN : Hid (Below w5.heap.size w5 (w6.alloc (.cells #[.int .i64 1, .int .i64 dv, .int .i64 U] 43))) := hbn
                    clear hbn hb6 HOF
                    go_wp2
                    go_roundw
                    case rel => exact ⟨k + 1, U, by go_num, hlt, h60, HMU.out, HT5.out.after HBN.out (Nat.le_refl _), HX5.out.below HBN.out HX5.out.lt, HB5.out.trans (HBN.out.mono HB5.out.size)⟩
                    case measure => simp [Go.RowKit.intOf]; omega
                · have dov : decide (U ≤ a) = false := decide_eq_false hov
                  obtain ⟨M, hM⟩ : ∃ M, M = max U (a + c) := ⟨_, rfl⟩
                  have HME : Hid (M = max U (a + c)) := hM
                  have HMU : Hid (0 < M) := by have := HU.out; show (0 : Int) < M; omega
                  have e1 : decide (M < U) = false := decide_eq_false (by omega)
                  have hw : wrap64 (a + c) = a + c := by unfold wrap64; omega
                  have e2 : decide (M < a + c) = false := decide_eq_false (by omega)
                  have HRN : Hid (∀ W, Below wr.heap.size wr W → Calls Try.prog 17 #[.pointer (some ⟨G, 0, none⟩), .int .i64 1, .int .i64 a, .int .i64 c] W fun e w' => e = .returned (.tuple #[.agg #[.int .i64 1, .int .i64 dv, .int .i64 M], .int .i64 0]) ∧ LeT w' w1.heap.size G b v [⟨1, dv, M⟩] ∧ Chg (LeM G b v) W w') := fun W hW => by
                    have := renew16_any (HT.out.after hW (Nat.le_refl _)) 1 a c
                    rw [ren_ok _ a c HU.out hmo hli hov] at this
                    rw [HME.out]
                    exact this
                  have HRA : Hid (Calls Try.prog 17 #[.pointer (some ⟨G, 0, none⟩), .int .i64 1, .int .i64 a, .int .i64 c] (wr.drew.alloc (.cells #[.int .i64 0, .int .i64 0, .int .i64 0] 43)) fun e w' => e = .returned (.tuple #[.agg #[.int .i64 1, .int .i64 dv, .int .i64 M], .int .i64 0]) ∧ LeT w' w1.heap.size G b v [⟨1, dv, M⟩] ∧ Blk w' LX 43 #[.int .i64 1, .int .i64 dv, .int .i64 U] ∧ Below w.heap.size w w' ∧ Blk w' wr.drew.heap.size 43 #[.int .i64 0, .int .i64 0, .int .i64 0] ∧ LX ≠ wr.drew.heap.size ∧ ¬ LeM G b v wr.drew.heap.size) := (HRN.out _ (((Below.refl _ wr).drew).alloc (Nat.le_refl _) _)).mono (fun e w' ⟨q1, q2, q3⟩ => ⟨q1, q2, ((HX.out.drew).below (below_newE wr.drew _) HX.out.lt).chg q3 HNX.out, (low_new HBW.out.drew _).trans (q3.below (fun q hq => Nat.le_trans HS.out (HGV.out q hq)) (low_new HBW.out.drew (.cells #[.int .i64 0, .int .i64 0, .int .i64 0] 43)).size), (Blk.new wr.drew 43 #[.int .i64 0, .int .i64 0, .int .i64 0]).chg q3 (HT.out.fresh (Nat.le_refl _)), Nat.ne_of_lt HX.out.lt, HT.out.fresh (Nat.le_refl _)⟩)
                  have HRB : Hid (Calls Try.prog 17 #[.pointer (some ⟨G, 0, none⟩), .int .i64 1, .int .i64 a, .int .i64 c] wr.drew fun e w' => e = .returned (.tuple #[.agg #[.int .i64 1, .int .i64 dv, .int .i64 M], .int .i64 0]) ∧ LeT w' w1.heap.size G b v [⟨1, dv, M⟩] ∧ Blk w' LX 43 #[.int .i64 1, .int .i64 dv, .int .i64 U] ∧ Below w.heap.size w w') := (HRN.out _ (Below.refl _ _).drew).mono (fun e w' ⟨q1, q2, q3⟩ => ⟨q1, q2, (HX.out.drew).chg q3 HNX.out, (HBW.out.drew).trans (q3.below (fun q hq => Nat.le_trans HS.out (HGV.out q hq)) HBW.out.size)⟩)
                  clear HRN m0 m1 m2 m3 hmo hli hov hM
                  go_wp2_with fail
                  refine held_begin (fun V => V.cell? ⟨bd, off + k * 2, none⟩ = some (.int .i64 a) ∧ V.cell? ⟨bd, off + k * 2 + 1, none⟩ = some (.int .i64 c)) (by kernel_rfl) ?_
                  refine held_take 0 45 _ (.pointer (some ⟨G, 0, none⟩)) rfl rfl (by kernel_rfl) (by kernel_rfl) (by kernel_rfl) rfl hS0 (fun _ _ => rfl) ?_
                  simp only [Act.put, List.setIfInBounds_toArray, List.set_cons_succ, List.set_cons_zero]
                  refine held_take 1 46 _ (.slice (some ⟨bd, off, none⟩) ps.length cx) rfl rfl (by kernel_rfl) (by kernel_rfl) (by kernel_rfl) rfl hS0 (fun _ _ => rfl) ?_
                  simp only [Act.put, List.setIfInBounds_toArray, List.set_cons_succ, List.set_cons_zero]
                  refine held_take 2 47 _ (.int .i64 (k : Int)) rfl rfl (by kernel_rfl) (by kernel_rfl) (by kernel_rfl) rfl hS0 (fun _ _ => rfl) ?_
                  simp only [Act.put, List.setIfInBounds_toArray, List.set_cons_succ, List.set_cons_zero]
                  refine held_take 3 48 _ (.pointer (some ⟨bd, off + k * 2, none⟩)) rfl rfl (by kernel_rfl) (by kernel_rfl) (by kernel_rfl) rfl hS0 (fun V hV => exec_indexat 53 _ _ rfl (.slice (some ⟨bd, off, none⟩) ps.length cx) (.int .i64 (k : Int)) _ rfl rfl (HIX.out V)) ?_
                  simp only [Act.put, List.setIfInBounds_toArray, List.set_cons_succ, List.set_cons_zero]
                  refine held_take 4 49 _ (.pointer (some ⟨bd, off + k * 2, none⟩)) rfl rfl (by kernel_rfl) (by kernel_rfl) (by kernel_rfl) rfl hS0 (fun V hV => exec_indexat 54 _ _ rfl (.pointer (some ⟨bd, off + k * 2, none⟩)) (.int .i64 0) _ rfl rfl (index_a16 bd (off + k * 2) 0 (by omega) V)) ?_
                  simp only [Act.put, List.setIfInBounds_toArray, List.set_cons_succ, List.set_cons_zero]
                  refine held_take 5 50 _ (.int .i64 a) rfl rfl (by kernel_rfl) (by kernel_rfl) (by kernel_rfl) rfl hS0 (fun V hV => exec_loadc 3 _ rfl _ _ rfl (load_one 3 (fun _ => by kernel_rfl) V _ _ _ hV.1)) ?_
                  simp only [Act.put, List.setIfInBounds_toArray, List.set_cons_succ, List.set_cons_zero]
                  refine held_take 6 51 _ (.slice (some ⟨bd, off, none⟩) ps.length cx) rfl rfl (by kernel_rfl) (by kernel_rfl) (by kernel_rfl) rfl hS0 (fun _ _ => rfl) ?_
                  simp only [Act.put, List.setIfInBounds_toArray, List.set_cons_succ, List.set_cons_zero]
                  refine held_take 7 52 _ (.int .i64 (k : Int)) rfl rfl (by kernel_rfl) (by kernel_rfl) (by kernel_rfl) rfl hS0 (fun _ _ => rfl) ?_
                  simp only [Act.put, List.setIfInBounds_toArray, List.set_cons_succ, List.set_cons_zero]
                  refine held_take 8 53 _ (.pointer (some ⟨bd, off + k * 2, none⟩)) rfl rfl (by kernel_rfl) (by kernel_rfl) (by kernel_rfl) rfl hS0 (fun V hV => exec_indexat 53 _ _ rfl (.slice (some ⟨bd, off, none⟩) ps.length cx) (.int .i64 (k : Int)) _ rfl rfl (HIX.out V)) ?_
                  simp only [Act.put, List.setIfInBounds_toArray, List.set_cons_succ, List.set_cons_zero]
                  refine held_take 9 54 _ (.pointer (some ⟨bd, off + k * 2 + 1, none⟩)) rfl rfl (by kernel_rfl) (by kernel_rfl) (by kernel_rfl) rfl hS0 (fun V hV => exec_indexat 54 _ _ rfl (.pointer (some ⟨bd, off + k * 2, none⟩)) (.int .i64 1) _ rfl rfl (index_a16 bd (off + k * 2) 1 (by omega) V)) ?_
                  simp only [Act.put, List.setIfInBounds_toArray, List.set_cons_succ, List.set_cons_zero]
                  refine held_take 10 55 _ (.int .i64 c) rfl rfl (by kernel_rfl) (by kernel_rfl) (by kernel_rfl) rfl hS0 (fun V hV => exec_loadc 3 _ rfl _ _ rfl (load_one 3 (fun _ => by kernel_rfl) V _ _ _ hV.2)) ?_
                  simp only [Act.put, List.setIfInBounds_toArray, List.set_cons_succ, List.set_cons_zero]
                  refine held_all2 11 15 (by kernel_rfl) ?_ ?_
                  · refine op_call 11 56 _ 17 #[.pointer (some ⟨G, 0, none⟩), .int .i64 1, .int .i64 a, .int .i64 c] rfl rfl rfl (exec_four8 17 _ _ _ _ _ rfl _ _ _ _ rfl rfl rfl rfl Try.call17) (HRB.out.mono ?_)
                    rintro e w3 ⟨rfl, hT3, hX3, hB3⟩
                    refine ⟨_, rfl, HSV.out w3 hB3, ?_⟩
                    simp only [Act.put, List.setIfInBounds_toArray, List.set_cons_succ, List.set_cons_zero]
                    refine held_take 12 44 _ (.tuple #[.agg #[.int .i64 1, .int .i64 dv, .int .i64 M], .int .i64 0]) rfl rfl (by kernel_rfl) (by kernel_rfl) (by kernel_rfl) rfl (HSV.out w3 hB3) (fun _ _ => rfl) ?_
                    simp only [Act.put, List.setIfInBounds_toArray, List.set_cons_succ, List.set_cons_zero]
                    refine held_take 13 57 _ (.agg #[.int .i64 1, .int .i64 dv, .int .i64 M]) rfl rfl (by kernel_rfl) (by kernel_rfl) (by kernel_rfl) rfl (HSV.out w3 hB3) (fun _ _ => rfl) ?_
                    simp only [Act.put, List.setIfInBounds_toArray, List.set_cons_succ, List.set_cons_zero]
                    refine held_take 14 58 _ (.int .i64 0) rfl rfl (by kernel_rfl) (by kernel_rfl) (by kernel_rfl) rfl (HSV.out w3 hB3) (fun _ _ => rfl) ?_
                    simp only [Act.put, List.setIfInBounds_toArray, List.set_cons_succ, List.set_cons_zero]
                    refine held_all1 15 (by kernel_rfl) (op_value 15 10 _ (.pointer (some ⟨w3.heap.size, 0, none⟩)) (w3.alloc (.cells #[.int .i64 0, .int .i64 0, .int .i64 0] 43)) rfl rfl rfl (exec_allocE rfl) ⟨(HSV.out _ (low_new hB3 _)), ?_⟩)
                    simp only [Act.put, List.setIfInBounds_toArray, List.set_cons_succ, List.set_cons_zero]
                    refine held_all1 16 (by kernel_rfl) (op_row 16 _ rfl rfl rfl 43 _ _ rfl (w3.heap.size) #[.int .i64 1, .int .i64 dv, .int .i64 M] rfl rfl 43 _ (Blk.new w3 43 #[.int .i64 0, .int .i64 0, .int .i64 0]) info_le rfl (by simp [Value.oneCell']) ?_)
                    intro W4 hY4 hg4 _
                    have hT4 := (hT3.after (below_newE w3 _) (Nat.le_refl _)).store hg4 (hT3.fresh (Nat.le_refl _))
                    have hX4 := (hX3.below (below_newE w3 _) hX3.lt).chg (S := fun q => q = w3.heap.size) (Chg.of_grown hg4 (fun q e => (Option.some.inj e).symm)) (Nat.ne_of_lt hX3.lt)
                    have hB4 : Below w.heap.size w W4 := below_grown (low_new hB3 _) hg4 (low_new hB3 _).size (fun q hq => by cases hq; exact hB3.size)
                    refine ⟨HSV.out W4 hB4, ?_⟩
                    refine held_take 17 11 _ (.int .i64 0) rfl rfl (by kernel_rfl) (by kernel_rfl) (by kernel_rfl) rfl (HSV.out W4 hB4) (fun _ _ => rfl) ?_
                    simp only [Act.put, List.setIfInBounds_toArray, List.set_cons_succ, List.set_cons_zero]
                    refine wpAnyH_done (by kernel_rfl) ?_ _
                    refine NoPanic.normal ?_
                    clear hT3 hX3 hB3 hg4
                    have a4 := HCA.out W4 hB4
                    have c4 := HCC.out W4 hB4
                    have x0 : W4.cell? ⟨LX, 0, none⟩ = some (.int .i64 1) := hX4.cell (j := 0) rfl
                    have x1 : W4.cell? ⟨LX, 1, none⟩ = some (.int .i64 dv) := hX4.cell (j := 1) rfl
                    have x2 : W4.cell? ⟨LX, 2, none⟩ = some (.int .i64 U) := hX4.cell (j := 2) rfl
                    have HX4 : Hid (Blk W4 LX 43 #[.int .i64 1, .int .i64 dv, .int .i64 U]) := hX4
                    have HT4 : Hid (LeT W4 w1.heap.size G b v [⟨1, dv, M⟩]) := hT4
                    have HB4 : Hid (Below w.heap.size w W4) := hB4
                    have y0 : W4.cell? ⟨w3.heap.size, 0, none⟩ = some (.int .i64 1) := hY4.cell (j := 0) rfl
                    have y1 : W4.cell? ⟨w3.heap.size, 1, none⟩ = some (.int .i64 dv) := hY4.cell (j := 1) rfl
                    have y2 : W4.cell? ⟨w3.heap.size, 2, none⟩ = some (.int .i64 M) := hY4.cell (j := 2) rfl
                    clear hX4 hT4 hB4 hY4
                    go_wp2_with fail
                    go_quiet (fail)
                    
                    go_wp2_with fail
                    go_quiet (fail)
                    clear x0 x1 x2
                    go_wp2_with (first | (refine store_blk rfl 43 _ _ rfl rfl LX #[.int .i64 1, .int .i64 dv, .int .i64 M] rfl rfl 43 _ (Blk.drewN HX4.out _) info_le rfl (by simp [Value.oneCell']) ?_; intro w5 kX5 hg5 _))
                    have hT5 := LeT.store (HT4.out.after (Below.drewN (Below.refl _ _) _) (Nat.le_refl _)) hg5 HNX.out
                    have hB5 := below_grown (Below.drewN HB4.out _) hg5 HB4.out.size (fun q hq => by cases hq; exact HLW.out)
                    
                    have HOF := of16_any hT5 dv HDV.out.1 HDV.out.2
                    rw [ren_of dv M HMU.out] at HOF
                    unfold leV leL at HOF
                    dsimp only at HOF
                    have HT5 : Hid (LeT w5 w1.heap.size G b v [⟨1, dv, M⟩]) := hT5
                    have HX5 : Hid (Blk w5 LX 43 #[.int .i64 1, .int .i64 dv, .int .i64 M]) := kX5
                    have HB5 : Hid (Below w.heap.size w w5) := hB5
                    clear hT5 kX5 hB5
                    go_wp2_with fail
                    refine HOF.mono ?_
                    rintro e w6 ⟨rfl, hb6⟩
                    have hbn := low_new hb6 (.cells #[.int .i64 1, .int .i64 dv, .int .i64 M] 43)
                    have q0 := (HX5.out.below hbn HX5.out.lt).cell (j := 0) rfl
                    have q1 := (HX5.out.below hbn HX5.out.lt).cell (j := 1) rfl
                    have q2 := (HX5.out.below hbn HX5.out.lt).cell (j := 2) rfl
                    have HBN : Hid (Below w5.heap.size w5 (w6.alloc (.cells #[.int .i64 1, .int .i64 dv, .int .i64 M] 43))) := hbn
                    clear hbn hb6 HOF
                    go_wp2
                    go_roundw
                    case rel => exact ⟨k + 1, M, by go_num, hlt, h60, HMU.out, HT5.out.after HBN.out (Nat.le_refl _), HX5.out.below HBN.out HX5.out.lt, HB5.out.trans (HBN.out.mono HB5.out.size)⟩
                    case measure => simp [Go.RowKit.intOf]; omega
                  · refine op_value 15 10 _ (.pointer (some ⟨wr.drew.heap.size, 0, none⟩)) (wr.drew.alloc (.cells #[.int .i64 0, .int .i64 0, .int .i64 0] 43)) rfl rfl rfl (exec_allocE rfl) ⟨(HSV.out _ (low_new HBW.out.drew _)), ?_⟩
                    simp only [Act.put, List.setIfInBounds_toArray, List.set_cons_succ, List.set_cons_zero]
                    refine held_all1 11 (by kernel_rfl) (op_call 11 56 _ 17 #[.pointer (some ⟨G, 0, none⟩), .int .i64 1, .int .i64 a, .int .i64 c] rfl rfl rfl (exec_four8 17 _ _ _ _ _ rfl _ _ _ _ rfl rfl rfl rfl Try.call17) (HRA.out.mono ?_))
                    rintro e w3 ⟨rfl, hT3, hX3, hB3, hY3, hn1, hn2⟩
                    refine ⟨_, rfl, HSV.out w3 hB3, ?_⟩
                    simp only [Act.put, List.setIfInBounds_toArray, List.set_cons_succ, List.set_cons_zero]
                    refine held_take 12 44 _ (.tuple #[.agg #[.int .i64 1, .int .i64 dv, .int .i64 M], .int .i64 0]) rfl rfl (by kernel_rfl) (by kernel_rfl) (by kernel_rfl) rfl (HSV.out w3 hB3) (fun _ _ => rfl) ?_
                    simp only [Act.put, List.setIfInBounds_toArray, List.set_cons_succ, List.set_cons_zero]
                    refine held_take 13 57 _ (.agg #[.int .i64 1, .int .i64 dv, .int .i64 M]) rfl rfl (by kernel_rfl) (by kernel_rfl) (by kernel_rfl) rfl (HSV.out w3 hB3) (fun _ _ => rfl) ?_
                    simp only [Act.put, List.setIfInBounds_toArray, List.set_cons_succ, List.set_cons_zero]
                    refine held_take 14 58 _ (.int .i64 0) rfl rfl (by kernel_rfl) (by kernel_rfl) (by kernel_rfl) rfl (HSV.out w3 hB3) (fun _ _ => rfl) ?_
                    simp only [Act.put, List.setIfInBounds_toArray, List.set_cons_succ, List.set_cons_zero]
                    refine held_all1 16 (by kernel_rfl) (op_row 16 _ rfl rfl rfl 43 _ _ rfl (wr.drew.heap.size) #[.int .i64 1, .int .i64 dv, .int .i64 M] rfl rfl 43 _ hY3 info_le rfl (by simp [Value.oneCell']) ?_)
                    intro W4 hY4 hg4 _
                    have hT4 := hT3.store hg4 hn2
                    have hX4 := hX3.chg (S := fun q => q = wr.drew.heap.size) (Chg.of_grown hg4 (fun q e => (Option.some.inj e).symm)) hn1
                    have hB4 : Below w.heap.size w W4 := below_grown hB3 hg4 hB3.size (fun q hq => by cases hq; exact HBW.out.size)
                    refine ⟨HSV.out W4 hB4, ?_⟩
                    refine held_take 17 11 _ (.int .i64 0) rfl rfl (by kernel_rfl) (by kernel_rfl) (by kernel_rfl) rfl (HSV.out W4 hB4) (fun _ _ => rfl) ?_
                    simp only [Act.put, List.setIfInBounds_toArray, List.set_cons_succ, List.set_cons_zero]
                    refine wpAnyH_done (by kernel_rfl) ?_ _
                    refine NoPanic.normal ?_
                    clear hT3 hX3 hB3 hg4 hY3 hn1 hn2
                    have a4 := HCA.out W4 hB4
                    have c4 := HCC.out W4 hB4
                    have x0 : W4.cell? ⟨LX, 0, none⟩ = some (.int .i64 1) := hX4.cell (j := 0) rfl
                    have x1 : W4.cell? ⟨LX, 1, none⟩ = some (.int .i64 dv) := hX4.cell (j := 1) rfl
                    have x2 : W4.cell? ⟨LX, 2, none⟩ = some (.int .i64 U) := hX4.cell (j := 2) rfl
                    have HX4 : Hid (Blk W4 LX 43 #[.int .i64 1, .int .i64 dv, .int .i64 U]) := hX4
                    have HT4 : Hid (LeT W4 w1.heap.size G b v [⟨1, dv, M⟩]) := hT4
                    have HB4 : Hid (Below w.heap.size w W4) := hB4
                    have y0 : W4.cell? ⟨wr.heap.size, 0, none⟩ = some (.int .i64 1) := hY4.cell (j := 0) rfl
                    have y1 : W4.cell? ⟨wr.heap.size, 1, none⟩ = some (.int .i64 dv) := hY4.cell (j := 1) rfl
                    have y2 : W4.cell? ⟨wr.heap.size, 2, none⟩ = some (.int .i64 M) := hY4.cell (j := 2) rfl
                    clear hX4 hT4 hB4 hY4
                    go_wp2_with fail
                    go_quiet (fail)
                    
                    go_wp2_with fail
                    go_quiet (fail)
                    clear x0 x1 x2
                    go_wp2_with (first | (refine store_blk rfl 43 _ _ rfl rfl LX #[.int .i64 1, .int .i64 dv, .int .i64 M] rfl rfl 43 _ (Blk.drewN HX4.out _) info_le rfl (by simp [Value.oneCell']) ?_; intro w5 kX5 hg5 _))
                    have hT5 := LeT.store (HT4.out.after (Below.drewN (Below.refl _ _) _) (Nat.le_refl _)) hg5 HNX.out
                    have hB5 := below_grown (Below.drewN HB4.out _) hg5 HB4.out.size (fun q hq => by cases hq; exact HLW.out)
                    
                    have HOF := of16_any hT5 dv HDV.out.1 HDV.out.2
                    rw [ren_of dv M HMU.out] at HOF
                    unfold leV leL at HOF
                    dsimp only at HOF
                    have HT5 : Hid (LeT w5 w1.heap.size G b v [⟨1, dv, M⟩]) := hT5
                    have HX5 : Hid (Blk w5 LX 43 #[.int .i64 1, .int .i64 dv, .int .i64 M]) := kX5
                    have HB5 : Hid (Below w.heap.size w w5) := hB5
                    clear hT5 kX5 hB5
                    go_wp2_with fail
                    refine HOF.mono ?_
                    rintro e w6 ⟨rfl, hb6⟩
                    have hbn := low_new hb6 (.cells #[.int .i64 1, .int .i64 dv, .int .i64 M] 43)
                    have q0 := (HX5.out.below hbn HX5.out.lt).cell (j := 0) rfl
                    have q1 := (HX5.out.below hbn HX5.out.lt).cell (j := 1) rfl
                    have q2 := (HX5.out.below hbn HX5.out.lt).cell (j := 2) rfl
                    have HBN : Hid (Below w5.heap.size w5 (w6.alloc (.cells #[.int .i64 1, .int .i64 dv, .int .i64 M] 43))) := hbn
                    clear hbn hb6 HOF
                    go_wp2
                    go_roundw
                    case rel => exact ⟨k + 1, M, by go_num, hlt, h60, HMU.out, HT5.out.after HBN.out (Nat.le_refl _), HX5.out.below HBN.out HX5.out.lt, HB5.out.trans (HBN.out.mono HB5.out.size)⟩
                    case measure => simp [Go.RowKit.intOf]; omega
              · have d3 : decide (c ≤ 1048576) = false := decide_eq_false m3
                have HMU : Hid (0 < U) := HU.out
                have HRN : Hid (∀ W, Below wr.heap.size wr W → Calls Try.prog 17 #[.pointer (some ⟨G, 0, none⟩), .int .i64 1, .int .i64 a, .int .i64 c] W fun e w' => e = .returned (.tuple #[.agg #[.int .i64 0, .int .i64 0, .int .i64 0], .int .i64 1]) ∧ LeT w' w1.heap.size G b v [⟨1, dv, U⟩] ∧ Chg (LeM G b v) W w') := fun W hW => by
                  have := renew16_any (HT.out.after hW (Nat.le_refl _)) 1 a c
                  rw [ren_bad _ a c (.inr (by unfold liT; exact decide_eq_false (by omega)))] at this
                  exact this
                have HRA : Hid (Calls Try.prog 17 #[.pointer (some ⟨G, 0, none⟩), .int .i64 1, .int .i64 a, .int .i64 c] (wr.drew.alloc (.cells #[.int .i64 0, .int .i64 0, .int .i64 0] 43)) fun e w' => e = .returned (.tuple #[.agg #[.int .i64 0, .int .i64 0, .int .i64 0], .int .i64 1]) ∧ LeT w' w1.heap.size G b v [⟨1, dv, U⟩] ∧ Blk w' LX 43 #[.int .i64 1, .int .i64 dv, .int .i64 U] ∧ Below w.heap.size w w' ∧ Blk w' wr.drew.heap.size 43 #[.int .i64 0, .int .i64 0, .int .i64 0] ∧ LX ≠ wr.drew.heap.size ∧ ¬ LeM G b v wr.drew.heap.size) := (HRN.out _ (((Below.refl _ wr).drew).alloc (Nat.le_refl _) _)).mono (fun e w' ⟨q1, q2, q3⟩ => ⟨q1, q2, ((HX.out.drew).below (below_newE wr.drew _) HX.out.lt).chg q3 HNX.out, (low_new HBW.out.drew _).trans (q3.below (fun q hq => Nat.le_trans HS.out (HGV.out q hq)) (low_new HBW.out.drew (.cells #[.int .i64 0, .int .i64 0, .int .i64 0] 43)).size), (Blk.new wr.drew 43 #[.int .i64 0, .int .i64 0, .int .i64 0]).chg q3 (HT.out.fresh (Nat.le_refl _)), Nat.ne_of_lt HX.out.lt, HT.out.fresh (Nat.le_refl _)⟩)
                have HRB : Hid (Calls Try.prog 17 #[.pointer (some ⟨G, 0, none⟩), .int .i64 1, .int .i64 a, .int .i64 c] wr.drew fun e w' => e = .returned (.tuple #[.agg #[.int .i64 0, .int .i64 0, .int .i64 0], .int .i64 1]) ∧ LeT w' w1.heap.size G b v [⟨1, dv, U⟩] ∧ Blk w' LX 43 #[.int .i64 1, .int .i64 dv, .int .i64 U] ∧ Below w.heap.size w w') := (HRN.out _ (Below.refl _ _).drew).mono (fun e w' ⟨q1, q2, q3⟩ => ⟨q1, q2, (HX.out.drew).chg q3 HNX.out, (HBW.out.drew).trans (q3.below (fun q hq => Nat.le_trans HS.out (HGV.out q hq)) HBW.out.size)⟩)
                clear HRN m0 m1 m2 m3
                go_wp2_with fail
                refine held_begin (fun V => V.cell? ⟨bd, off + k * 2, none⟩ = some (.int .i64 a) ∧ V.cell? ⟨bd, off + k * 2 + 1, none⟩ = some (.int .i64 c)) (by kernel_rfl) ?_
                refine held_take 0 45 _ (.pointer (some ⟨G, 0, none⟩)) rfl rfl (by kernel_rfl) (by kernel_rfl) (by kernel_rfl) rfl hS0 (fun _ _ => rfl) ?_
                simp only [Act.put, List.setIfInBounds_toArray, List.set_cons_succ, List.set_cons_zero]
                refine held_take 1 46 _ (.slice (some ⟨bd, off, none⟩) ps.length cx) rfl rfl (by kernel_rfl) (by kernel_rfl) (by kernel_rfl) rfl hS0 (fun _ _ => rfl) ?_
                simp only [Act.put, List.setIfInBounds_toArray, List.set_cons_succ, List.set_cons_zero]
                refine held_take 2 47 _ (.int .i64 (k : Int)) rfl rfl (by kernel_rfl) (by kernel_rfl) (by kernel_rfl) rfl hS0 (fun _ _ => rfl) ?_
                simp only [Act.put, List.setIfInBounds_toArray, List.set_cons_succ, List.set_cons_zero]
                refine held_take 3 48 _ (.pointer (some ⟨bd, off + k * 2, none⟩)) rfl rfl (by kernel_rfl) (by kernel_rfl) (by kernel_rfl) rfl hS0 (fun V hV => exec_indexat 53 _ _ rfl (.slice (some ⟨bd, off, none⟩) ps.length cx) (.int .i64 (k : Int)) _ rfl rfl (HIX.out V)) ?_
                simp only [Act.put, List.setIfInBounds_toArray, List.set_cons_succ, List.set_cons_zero]
                refine held_take 4 49 _ (.pointer (some ⟨bd, off + k * 2, none⟩)) rfl rfl (by kernel_rfl) (by kernel_rfl) (by kernel_rfl) rfl hS0 (fun V hV => exec_indexat 54 _ _ rfl (.pointer (some ⟨bd, off + k * 2, none⟩)) (.int .i64 0) _ rfl rfl (index_a16 bd (off + k * 2) 0 (by omega) V)) ?_
                simp only [Act.put, List.setIfInBounds_toArray, List.set_cons_succ, List.set_cons_zero]
                refine held_take 5 50 _ (.int .i64 a) rfl rfl (by kernel_rfl) (by kernel_rfl) (by kernel_rfl) rfl hS0 (fun V hV => exec_loadc 3 _ rfl _ _ rfl (load_one 3 (fun _ => by kernel_rfl) V _ _ _ hV.1)) ?_
                simp only [Act.put, List.setIfInBounds_toArray, List.set_cons_succ, List.set_cons_zero]
                refine held_take 6 51 _ (.slice (some ⟨bd, off, none⟩) ps.length cx) rfl rfl (by kernel_rfl) (by kernel_rfl) (by kernel_rfl) rfl hS0 (fun _ _ => rfl) ?_
                simp only [Act.put, List.setIfInBounds_toArray, List.set_cons_succ, List.set_cons_zero]
                refine held_take 7 52 _ (.int .i64 (k : Int)) rfl rfl (by kernel_rfl) (by kernel_rfl) (by kernel_rfl) rfl hS0 (fun _ _ => rfl) ?_
                simp only [Act.put, List.setIfInBounds_toArray, List.set_cons_succ, List.set_cons_zero]
                refine held_take 8 53 _ (.pointer (some ⟨bd, off + k * 2, none⟩)) rfl rfl (by kernel_rfl) (by kernel_rfl) (by kernel_rfl) rfl hS0 (fun V hV => exec_indexat 53 _ _ rfl (.slice (some ⟨bd, off, none⟩) ps.length cx) (.int .i64 (k : Int)) _ rfl rfl (HIX.out V)) ?_
                simp only [Act.put, List.setIfInBounds_toArray, List.set_cons_succ, List.set_cons_zero]
                refine held_take 9 54 _ (.pointer (some ⟨bd, off + k * 2 + 1, none⟩)) rfl rfl (by kernel_rfl) (by kernel_rfl) (by kernel_rfl) rfl hS0 (fun V hV => exec_indexat 54 _ _ rfl (.pointer (some ⟨bd, off + k * 2, none⟩)) (.int .i64 1) _ rfl rfl (index_a16 bd (off + k * 2) 1 (by omega) V)) ?_
                simp only [Act.put, List.setIfInBounds_toArray, List.set_cons_succ, List.set_cons_zero]
                refine held_take 10 55 _ (.int .i64 c) rfl rfl (by kernel_rfl) (by kernel_rfl) (by kernel_rfl) rfl hS0 (fun V hV => exec_loadc 3 _ rfl _ _ rfl (load_one 3 (fun _ => by kernel_rfl) V _ _ _ hV.2)) ?_
                simp only [Act.put, List.setIfInBounds_toArray, List.set_cons_succ, List.set_cons_zero]
                refine held_all2 11 15 (by kernel_rfl) ?_ ?_
                · refine op_call 11 56 _ 17 #[.pointer (some ⟨G, 0, none⟩), .int .i64 1, .int .i64 a, .int .i64 c] rfl rfl rfl (exec_four8 17 _ _ _ _ _ rfl _ _ _ _ rfl rfl rfl rfl Try.call17) (HRB.out.mono ?_)
                  rintro e w3 ⟨rfl, hT3, hX3, hB3⟩
                  refine ⟨_, rfl, HSV.out w3 hB3, ?_⟩
                  simp only [Act.put, List.setIfInBounds_toArray, List.set_cons_succ, List.set_cons_zero]
                  refine held_take 12 44 _ (.tuple #[.agg #[.int .i64 0, .int .i64 0, .int .i64 0], .int .i64 1]) rfl rfl (by kernel_rfl) (by kernel_rfl) (by kernel_rfl) rfl (HSV.out w3 hB3) (fun _ _ => rfl) ?_
                  simp only [Act.put, List.setIfInBounds_toArray, List.set_cons_succ, List.set_cons_zero]
                  refine held_take 13 57 _ (.agg #[.int .i64 0, .int .i64 0, .int .i64 0]) rfl rfl (by kernel_rfl) (by kernel_rfl) (by kernel_rfl) rfl (HSV.out w3 hB3) (fun _ _ => rfl) ?_
                  simp only [Act.put, List.setIfInBounds_toArray, List.set_cons_succ, List.set_cons_zero]
                  refine held_take 14 58 _ (.int .i64 1) rfl rfl (by kernel_rfl) (by kernel_rfl) (by kernel_rfl) rfl (HSV.out w3 hB3) (fun _ _ => rfl) ?_
                  simp only [Act.put, List.setIfInBounds_toArray, List.set_cons_succ, List.set_cons_zero]
                  refine held_all1 15 (by kernel_rfl) (op_value 15 10 _ (.pointer (some ⟨w3.heap.size, 0, none⟩)) (w3.alloc (.cells #[.int .i64 0, .int .i64 0, .int .i64 0] 43)) rfl rfl rfl (exec_allocE rfl) ⟨(HSV.out _ (low_new hB3 _)), ?_⟩)
                  simp only [Act.put, List.setIfInBounds_toArray, List.set_cons_succ, List.set_cons_zero]
                  refine held_all1 16 (by kernel_rfl) (op_row 16 _ rfl rfl rfl 43 _ _ rfl (w3.heap.size) #[.int .i64 0, .int .i64 0, .int .i64 0] rfl rfl 43 _ (Blk.new w3 43 #[.int .i64 0, .int .i64 0, .int .i64 0]) info_le rfl (by simp [Value.oneCell']) ?_)
                  intro W4 hY4 hg4 _
                  have hT4 := (hT3.after (below_newE w3 _) (Nat.le_refl _)).store hg4 (hT3.fresh (Nat.le_refl _))
                  have hX4 := (hX3.below (below_newE w3 _) hX3.lt).chg (S := fun q => q = w3.heap.size) (Chg.of_grown hg4 (fun q e => (Option.some.inj e).symm)) (Nat.ne_of_lt hX3.lt)
                  have hB4 : Below w.heap.size w W4 := below_grown (low_new hB3 _) hg4 (low_new hB3 _).size (fun q hq => by cases hq; exact hB3.size)
                  refine ⟨HSV.out W4 hB4, ?_⟩
                  refine held_take 17 11 _ (.int .i64 1) rfl rfl (by kernel_rfl) (by kernel_rfl) (by kernel_rfl) rfl (HSV.out W4 hB4) (fun _ _ => rfl) ?_
                  simp only [Act.put, List.setIfInBounds_toArray, List.set_cons_succ, List.set_cons_zero]
                  refine wpAnyH_done (by kernel_rfl) ?_ _
                  refine NoPanic.normal ?_
                  clear hT3 hX3 hB3 hg4
                  have a4 := HCA.out W4 hB4
                  have c4 := HCC.out W4 hB4
                  have x0 : W4.cell? ⟨LX, 0, none⟩ = some (.int .i64 1) := hX4.cell (j := 0) rfl
                  have x1 : W4.cell? ⟨LX, 1, none⟩ = some (.int .i64 dv) := hX4.cell (j := 1) rfl
                  have x2 : W4.cell? ⟨LX, 2, none⟩ = some (.int .i64 U) := hX4.cell (j := 2) rfl
                  have HX4 : Hid (Blk W4 LX 43 #[.int .i64 1, .int .i64 dv, .int .i64 U]) := hX4
                  have HT4 : Hid (LeT W4 w1.heap.size G b v [⟨1, dv, U⟩]) := hT4
                  have HB4 : Hid (Below w.heap.size w W4) := hB4
                  have y0 : W4.cell? ⟨w3.heap.size, 0, none⟩ = some (.int .i64 0) := hY4.cell (j := 0) rfl
                  have y1 : W4.cell? ⟨w3.heap.size, 1, none⟩ = some (.int .i64 0) := hY4.cell (j := 1) rfl
                  have y2 : W4.cell? ⟨w3.heap.size, 2, none⟩ = some (.int .i64 0) := hY4.cell (j := 2) rfl
                  clear hX4 hT4 hB4 hY4
                  go_wp2_with fail
                  go_quiet (fail)
                  
                  go_wp2_with fail
                  go_quiet (fail)
                  generalize hW5 : World.drewN _ _ = w5
                  have hT5 : LeT w5 w1.heap.size G b v [⟨1, dv, U⟩] := by rw [← hW5]; exact HT4.out.after (Below.drewN (Below.drewN (Below.refl _ _) _) _) (Nat.le_refl _)
                  have kX5 : Blk w5 LX 43 #[.int .i64 1, .int .i64 dv, .int .i64 U] := by rw [← hW5]; exact Blk.drewN (Blk.drewN HX4.out _) _
                  have hB5 : Below w.heap.size w w5 := by rw [← hW5]; exact Below.drewN (Below.drewN HB4.out _) _
                  
                  have HOF := of16_any hT5 dv HDV.out.1 HDV.out.2
                  rw [ren_of dv U HMU.out] at HOF
                  unfold leV leL at HOF
                  dsimp only at HOF
                  have HT5 : Hid (LeT w5 w1.heap.size G b v [⟨1, dv, U⟩]) := hT5
                  have HX5 : Hid (Blk w5 LX 43 #[.int .i64 1, .int .i64 dv, .int .i64 U]) := kX5
                  have HB5 : Hid (Below w.heap.size w w5) := hB5
                  clear hT5 kX5 hB5
                  go_wp2_with fail
                  refine HOF.mono ?_
                  rintro e w6 ⟨rfl, hb6⟩
                  have hbn := low_new hb6 (.cells #[.int .i64 1, .int .i64 dv, .int .i64 U] 43)
                  have q0 := (HX5.out.below hbn HX5.out.lt).cell (j := 0) rfl
                  have q1 := (HX5.out.below hbn HX5.out.lt).cell (j := 1) rfl
                  have q2 := (HX5.out.below hbn HX5.out.lt).cell (j := 2) rfl
                  have HBN : Hid (Below w5.heap.size w5 (w6.alloc (.cells #[.int .i64 1, .int .i64 dv, .int .i64 U] 43))) := hbn
                  clear hbn hb6 HOF
                  go_wp2
                  go_roundw
                  case rel => exact ⟨k + 1, U, by go_num, hlt, h60, HMU.out, HT5.out.after HBN.out (Nat.le_refl _), HX5.out.below HBN.out HX5.out.lt, HB5.out.trans (HBN.out.mono HB5.out.size)⟩
                  case measure => simp [Go.RowKit.intOf]; omega
                · refine op_value 15 10 _ (.pointer (some ⟨wr.drew.heap.size, 0, none⟩)) (wr.drew.alloc (.cells #[.int .i64 0, .int .i64 0, .int .i64 0] 43)) rfl rfl rfl (exec_allocE rfl) ⟨(HSV.out _ (low_new HBW.out.drew _)), ?_⟩
                  simp only [Act.put, List.setIfInBounds_toArray, List.set_cons_succ, List.set_cons_zero]
                  refine held_all1 11 (by kernel_rfl) (op_call 11 56 _ 17 #[.pointer (some ⟨G, 0, none⟩), .int .i64 1, .int .i64 a, .int .i64 c] rfl rfl rfl (exec_four8 17 _ _ _ _ _ rfl _ _ _ _ rfl rfl rfl rfl Try.call17) (HRA.out.mono ?_))
                  rintro e w3 ⟨rfl, hT3, hX3, hB3, hY3, hn1, hn2⟩
                  refine ⟨_, rfl, HSV.out w3 hB3, ?_⟩
                  simp only [Act.put, List.setIfInBounds_toArray, List.set_cons_succ, List.set_cons_zero]
                  refine held_take 12 44 _ (.tuple #[.agg #[.int .i64 0, .int .i64 0, .int .i64 0], .int .i64 1]) rfl rfl (by kernel_rfl) (by kernel_rfl) (by kernel_rfl) rfl (HSV.out w3 hB3) (fun _ _ => rfl) ?_
                  simp only [Act.put, List.setIfInBounds_toArray, List.set_cons_succ, List.set_cons_zero]
                  refine held_take 13 57 _ (.agg #[.int .i64 0, .int .i64 0, .int .i64 0]) rfl rfl (by kernel_rfl) (by kernel_rfl) (by kernel_rfl) rfl (HSV.out w3 hB3) (fun _ _ => rfl) ?_
                  simp only [Act.put, List.setIfInBounds_toArray, List.set_cons_succ, List.set_cons_zero]
                  refine held_take 14 58 _ (.int .i64 1) rfl rfl (by kernel_rfl) (by kernel_rfl) (by kernel_rfl) rfl (HSV.out w3 hB3) (fun _ _ => rfl) ?_
                  simp only [Act.put, List.setIfInBounds_toArray, List.set_cons_succ, List.set_cons_zero]
                  refine held_all1 16 (by kernel_rfl) (op_row 16 _ rfl rfl rfl 43 _ _ rfl (wr.drew.heap.size) #[.int .i64 0, .int .i64 0, .int .i64 0] rfl rfl 43 _ hY3 info_le rfl (by simp [Value.oneCell']) ?_)
                  intro W4 hY4 hg4 _
                  have hT4 := hT3.store hg4 hn2
                  have hX4 := hX3.chg (S := fun q => q = wr.drew.heap.size) (Chg.of_grown hg4 (fun q e => (Option.some.inj e).symm)) hn1
                  have hB4 : Below w.heap.size w W4 := below_grown hB3 hg4 hB3.size (fun q hq => by cases hq; exact HBW.out.size)
                  refine ⟨HSV.out W4 hB4, ?_⟩
                  refine held_take 17 11 _ (.int .i64 1) rfl rfl (by kernel_rfl) (by kernel_rfl) (by kernel_rfl) rfl (HSV.out W4 hB4) (fun _ _ => rfl) ?_
                  simp only [Act.put, List.setIfInBounds_toArray, List.set_cons_succ, List.set_cons_zero]
                  refine wpAnyH_done (by kernel_rfl) ?_ _
                  refine NoPanic.normal ?_
                  clear hT3 hX3 hB3 hg4 hY3 hn1 hn2
                  have a4 := HCA.out W4 hB4
                  have c4 := HCC.out W4 hB4
                  have x0 : W4.cell? ⟨LX, 0, none⟩ = some (.int .i64 1) := hX4.cell (j := 0) rfl
                  have x1 : W4.cell? ⟨LX, 1, none⟩ = some (.int .i64 dv) := hX4.cell (j := 1) rfl
                  have x2 : W4.cell? ⟨LX, 2, none⟩ = some (.int .i64 U) := hX4.cell (j := 2) rfl
                  have HX4 : Hid (Blk W4 LX 43 #[.int .i64 1, .int .i64 dv, .int .i64 U]) := hX4
                  have HT4 : Hid (LeT W4 w1.heap.size G b v [⟨1, dv, U⟩]) := hT4
                  have HB4 : Hid (Below w.heap.size w W4) := hB4
                  have y0 : W4.cell? ⟨wr.heap.size, 0, none⟩ = some (.int .i64 0) := hY4.cell (j := 0) rfl
                  have y1 : W4.cell? ⟨wr.heap.size, 1, none⟩ = some (.int .i64 0) := hY4.cell (j := 1) rfl
                  have y2 : W4.cell? ⟨wr.heap.size, 2, none⟩ = some (.int .i64 0) := hY4.cell (j := 2) rfl
                  clear hX4 hT4 hB4 hY4
                  go_wp2_with fail
                  go_quiet (fail)
                  
                  go_wp2_with fail
                  go_quiet (fail)
                  generalize hW5 : World.drewN _ _ = w5
                  have hT5 : LeT w5 w1.heap.size G b v [⟨1, dv, U⟩] := by rw [← hW5]; exact HT4.out.after (Below.drewN (Below.drewN (Below.refl _ _) _) _) (Nat.le_refl _)
                  have kX5 : Blk w5 LX 43 #[.int .i64 1, .int .i64 dv, .int .i64 U] := by rw [← hW5]; exact Blk.drewN (Blk.drewN HX4.out _) _
                  have hB5 : Below w.heap.size w w5 := by rw [← hW5]; exact Below.drewN (Below.drewN HB4.out _) _
                  
                  have HOF := of16_any hT5 dv HDV.out.1 HDV.out.2
                  rw [ren_of dv U HMU.out] at HOF
                  unfold leV leL at HOF
                  dsimp only at HOF
                  have HT5 : Hid (LeT w5 w1.heap.size G b v [⟨1, dv, U⟩]) := hT5
                  have HX5 : Hid (Blk w5 LX 43 #[.int .i64 1, .int .i64 dv, .int .i64 U]) := kX5
                  have HB5 : Hid (Below w.heap.size w w5) := hB5
                  clear hT5 kX5 hB5
                  go_wp2_with fail
                  refine HOF.mono ?_
                  rintro e w6 ⟨rfl, hb6⟩
                  have hbn := low_new hb6 (.cells #[.int .i64 1, .int .i64 dv, .int .i64 U] 43)
                  have q0 := (HX5.out.below hbn HX5.out.lt).cell (j := 0) rfl
                  have q1 := (HX5.out.below hbn HX5.out.lt).cell (j := 1) rfl
                  have q2 := (HX5.out.below hbn HX5.out.lt).cell (j := 2) rfl
                  have HBN : Hid (Below w5.heap.size w5 (w6.alloc (.cells #[.int .i64 1, .int .i64 dv, .int .i64 U] 43))) := hbn
                  clear hbn hb6 HOF
                  go_wp2
                  go_roundw
                  case rel => exact ⟨k + 1, U, by go_num, hlt, h60, HMU.out, HT5.out.after HBN.out (Nat.le_refl _), HX5.out.below HBN.out HX5.out.lt, HB5.out.trans (HBN.out.mono HB5.out.size)⟩
                  case measure => simp [Go.RowKit.intOf]; omega
            · have d2 : decide ((1 : Int) ≤ c) = false := decide_eq_false m2
              have HMU : Hid (0 < U) := HU.out
              have HRN : Hid (∀ W, Below wr.heap.size wr W → Calls Try.prog 17 #[.pointer (some ⟨G, 0, none⟩), .int .i64 1, .int .i64 a, .int .i64 c] W fun e w' => e = .returned (.tuple #[.agg #[.int .i64 0, .int .i64 0, .int .i64 0], .int .i64 1]) ∧ LeT w' w1.heap.size G b v [⟨1, dv, U⟩] ∧ Chg (LeM G b v) W w') := fun W hW => by
                have := renew16_any (HT.out.after hW (Nat.le_refl _)) 1 a c
                rw [ren_bad _ a c (.inr (by unfold liT; exact decide_eq_false (by omega)))] at this
                exact this
              have HRA : Hid (Calls Try.prog 17 #[.pointer (some ⟨G, 0, none⟩), .int .i64 1, .int .i64 a, .int .i64 c] (wr.drew.alloc (.cells #[.int .i64 0, .int .i64 0, .int .i64 0] 43)) fun e w' => e = .returned (.tuple #[.agg #[.int .i64 0, .int .i64 0, .int .i64 0], .int .i64 1]) ∧ LeT w' w1.heap.size G b v [⟨1, dv, U⟩] ∧ Blk w' LX 43 #[.int .i64 1, .int .i64 dv, .int .i64 U] ∧ Below w.heap.size w w' ∧ Blk w' wr.drew.heap.size 43 #[.int .i64 0, .int .i64 0, .int .i64 0] ∧ LX ≠ wr.drew.heap.size ∧ ¬ LeM G b v wr.drew.heap.size) := (HRN.out _ (((Below.refl _ wr).drew).alloc (Nat.le_refl _) _)).mono (fun e w' ⟨q1, q2, q3⟩ => ⟨q1, q2, ((HX.out.drew).below (below_newE wr.drew _) HX.out.lt).chg q3 HNX.out, (low_new HBW.out.drew _).trans (q3.below (fun q hq => Nat.le_trans HS.out (HGV.out q hq)) (low_new HBW.out.drew (.cells #[.int .i64 0, .int .i64 0, .int .i64 0] 43)).size), (Blk.new wr.drew 43 #[.int .i64 0, .int .i64 0, .int .i64 0]).chg q3 (HT.out.fresh (Nat.le_refl _)), Nat.ne_of_lt HX.out.lt, HT.out.fresh (Nat.le_refl _)⟩)
              have HRB : Hid (Calls Try.prog 17 #[.pointer (some ⟨G, 0, none⟩), .int .i64 1, .int .i64 a, .int .i64 c] wr.drew fun e w' => e = .returned (.tuple #[.agg #[.int .i64 0, .int .i64 0, .int .i64 0], .int .i64 1]) ∧ LeT w' w1.heap.size G b v [⟨1, dv, U⟩] ∧ Blk w' LX 43 #[.int .i64 1, .int .i64 dv, .int .i64 U] ∧ Below w.heap.size w w') := (HRN.out _ (Below.refl _ _).drew).mono (fun e w' ⟨q1, q2, q3⟩ => ⟨q1, q2, (HX.out.drew).chg q3 HNX.out, (HBW.out.drew).trans (q3.below (fun q hq => Nat.le_trans HS.out (HGV.out q hq)) HBW.out.size)⟩)
              clear HRN m0 m1 m2
              go_wp2_with fail
              refine held_begin (fun V => V.cell? ⟨bd, off + k * 2, none⟩ = some (.int .i64 a) ∧ V.cell? ⟨bd, off + k * 2 + 1, none⟩ = some (.int .i64 c)) (by kernel_rfl) ?_
              refine held_take 0 45 _ (.pointer (some ⟨G, 0, none⟩)) rfl rfl (by kernel_rfl) (by kernel_rfl) (by kernel_rfl) rfl hS0 (fun _ _ => rfl) ?_
              simp only [Act.put, List.setIfInBounds_toArray, List.set_cons_succ, List.set_cons_zero]
              refine held_take 1 46 _ (.slice (some ⟨bd, off, none⟩) ps.length cx) rfl rfl (by kernel_rfl) (by kernel_rfl) (by kernel_rfl) rfl hS0 (fun _ _ => rfl) ?_
              simp only [Act.put, List.setIfInBounds_toArray, List.set_cons_succ, List.set_cons_zero]
              refine held_take 2 47 _ (.int .i64 (k : Int)) rfl rfl (by kernel_rfl) (by kernel_rfl) (by kernel_rfl) rfl hS0 (fun _ _ => rfl) ?_
              simp only [Act.put, List.setIfInBounds_toArray, List.set_cons_succ, List.set_cons_zero]
              refine held_take 3 48 _ (.pointer (some ⟨bd, off + k * 2, none⟩)) rfl rfl (by kernel_rfl) (by kernel_rfl) (by kernel_rfl) rfl hS0 (fun V hV => exec_indexat 53 _ _ rfl (.slice (some ⟨bd, off, none⟩) ps.length cx) (.int .i64 (k : Int)) _ rfl rfl (HIX.out V)) ?_
              simp only [Act.put, List.setIfInBounds_toArray, List.set_cons_succ, List.set_cons_zero]
              refine held_take 4 49 _ (.pointer (some ⟨bd, off + k * 2, none⟩)) rfl rfl (by kernel_rfl) (by kernel_rfl) (by kernel_rfl) rfl hS0 (fun V hV => exec_indexat 54 _ _ rfl (.pointer (some ⟨bd, off + k * 2, none⟩)) (.int .i64 0) _ rfl rfl (index_a16 bd (off + k * 2) 0 (by omega) V)) ?_
              simp only [Act.put, List.setIfInBounds_toArray, List.set_cons_succ, List.set_cons_zero]
              refine held_take 5 50 _ (.int .i64 a) rfl rfl (by kernel_rfl) (by kernel_rfl) (by kernel_rfl) rfl hS0 (fun V hV => exec_loadc 3 _ rfl _ _ rfl (load_one 3 (fun _ => by kernel_rfl) V _ _ _ hV.1)) ?_
              simp only [Act.put, List.setIfInBounds_toArray, List.set_cons_succ, List.set_cons_zero]
              refine held_take 6 51 _ (.slice (some ⟨bd, off, none⟩) ps.length cx) rfl rfl (by kernel_rfl) (by kernel_rfl) (by kernel_rfl) rfl hS0 (fun _ _ => rfl) ?_
              simp only [Act.put, List.setIfInBounds_toArray, List.set_cons_succ, List.set_cons_zero]
              refine held_take 7 52 _ (.int .i64 (k : Int)) rfl rfl (by kernel_rfl) (by kernel_rfl) (by kernel_rfl) rfl hS0 (fun _ _ => rfl) ?_
              simp only [Act.put, List.setIfInBounds_toArray, List.set_cons_succ, List.set_cons_zero]
              refine held_take 8 53 _ (.pointer (some ⟨bd, off + k * 2, none⟩)) rfl rfl (by kernel_rfl) (by kernel_rfl) (by kernel_rfl) rfl hS0 (fun V hV => exec_indexat 53 _ _ rfl (.slice (some ⟨bd, off, none⟩) ps.length cx) (.int .i64 (k : Int)) _ rfl rfl (HIX.out V)) ?_
              simp only [Act.put, List.setIfInBounds_toArray, List.set_cons_succ, List.set_cons_zero]
              refine held_take 9 54 _ (.pointer (some ⟨bd, off + k * 2 + 1, none⟩)) rfl rfl (by kernel_rfl) (by kernel_rfl) (by kernel_rfl) rfl hS0 (fun V hV => exec_indexat 54 _ _ rfl (.pointer (some ⟨bd, off + k * 2, none⟩)) (.int .i64 1) _ rfl rfl (index_a16 bd (off + k * 2) 1 (by omega) V)) ?_
              simp only [Act.put, List.setIfInBounds_toArray, List.set_cons_succ, List.set_cons_zero]
              refine held_take 10 55 _ (.int .i64 c) rfl rfl (by kernel_rfl) (by kernel_rfl) (by kernel_rfl) rfl hS0 (fun V hV => exec_loadc 3 _ rfl _ _ rfl (load_one 3 (fun _ => by kernel_rfl) V _ _ _ hV.2)) ?_
              simp only [Act.put, List.setIfInBounds_toArray, List.set_cons_succ, List.set_cons_zero]
              refine held_all2 11 15 (by kernel_rfl) ?_ ?_
              · refine op_call 11 56 _ 17 #[.pointer (some ⟨G, 0, none⟩), .int .i64 1, .int .i64 a, .int .i64 c] rfl rfl rfl (exec_four8 17 _ _ _ _ _ rfl _ _ _ _ rfl rfl rfl rfl Try.call17) (HRB.out.mono ?_)
                rintro e w3 ⟨rfl, hT3, hX3, hB3⟩
                refine ⟨_, rfl, HSV.out w3 hB3, ?_⟩
                simp only [Act.put, List.setIfInBounds_toArray, List.set_cons_succ, List.set_cons_zero]
                refine held_take 12 44 _ (.tuple #[.agg #[.int .i64 0, .int .i64 0, .int .i64 0], .int .i64 1]) rfl rfl (by kernel_rfl) (by kernel_rfl) (by kernel_rfl) rfl (HSV.out w3 hB3) (fun _ _ => rfl) ?_
                simp only [Act.put, List.setIfInBounds_toArray, List.set_cons_succ, List.set_cons_zero]
                refine held_take 13 57 _ (.agg #[.int .i64 0, .int .i64 0, .int .i64 0]) rfl rfl (by kernel_rfl) (by kernel_rfl) (by kernel_rfl) rfl (HSV.out w3 hB3) (fun _ _ => rfl) ?_
                simp only [Act.put, List.setIfInBounds_toArray, List.set_cons_succ, List.set_cons_zero]
                refine held_take 14 58 _ (.int .i64 1) rfl rfl (by kernel_rfl) (by kernel_rfl) (by kernel_rfl) rfl (HSV.out w3 hB3) (fun _ _ => rfl) ?_
                simp only [Act.put, List.setIfInBounds_toArray, List.set_cons_succ, List.set_cons_zero]
                refine held_all1 15 (by kernel_rfl) (op_value 15 10 _ (.pointer (some ⟨w3.heap.size, 0, none⟩)) (w3.alloc (.cells #[.int .i64 0, .int .i64 0, .int .i64 0] 43)) rfl rfl rfl (exec_allocE rfl) ⟨(HSV.out _ (low_new hB3 _)), ?_⟩)
                simp only [Act.put, List.setIfInBounds_toArray, List.set_cons_succ, List.set_cons_zero]
                refine held_all1 16 (by kernel_rfl) (op_row 16 _ rfl rfl rfl 43 _ _ rfl (w3.heap.size) #[.int .i64 0, .int .i64 0, .int .i64 0] rfl rfl 43 _ (Blk.new w3 43 #[.int .i64 0, .int .i64 0, .int .i64 0]) info_le rfl (by simp [Value.oneCell']) ?_)
                intro W4 hY4 hg4 _
                have hT4 := (hT3.after (below_newE w3 _) (Nat.le_refl _)).store hg4 (hT3.fresh (Nat.le_refl _))
                have hX4 := (hX3.below (below_newE w3 _) hX3.lt).chg (S := fun q => q = w3.heap.size) (Chg.of_grown hg4 (fun q e => (Option.some.inj e).symm)) (Nat.ne_of_lt hX3.lt)
                have hB4 : Below w.heap.size w W4 := below_grown (low_new hB3 _) hg4 (low_new hB3 _).size (fun q hq => by cases hq; exact hB3.size)
                refine ⟨HSV.out W4 hB4, ?_⟩
                refine held_take 17 11 _ (.int .i64 1) rfl rfl (by kernel_rfl) (by kernel_rfl) (by kernel_rfl) rfl (HSV.out W4 hB4) (fun _ _ => rfl) ?_
                simp only [Act.put, List.setIfInBounds_toArray, List.set_cons_succ, List.set_cons_zero]
                refine wpAnyH_done (by kernel_rfl) ?_ _
                refine NoPanic.normal ?_
                clear hT3 hX3 hB3 hg4
                have a4 := HCA.out W4 hB4
                have c4 := HCC.out W4 hB4
                have x0 : W4.cell? ⟨LX, 0, none⟩ = some (.int .i64 1) := hX4.cell (j := 0) rfl
                have x1 : W4.cell? ⟨LX, 1, none⟩ = some (.int .i64 dv) := hX4.cell (j := 1) rfl
                have x2 : W4.cell? ⟨LX, 2, none⟩ = some (.int .i64 U) := hX4.cell (j := 2) rfl
                have HX4 : Hid (Blk W4 LX 43 #[.int .i64 1, .int .i64 dv, .int .i64 U]) := hX4
                have HT4 : Hid (LeT W4 w1.heap.size G b v [⟨1, dv, U⟩]) := hT4
                have HB4 : Hid (Below w.heap.size w W4) := hB4
                have y0 : W4.cell? ⟨w3.heap.size, 0, none⟩ = some (.int .i64 0) := hY4.cell (j := 0) rfl
                have y1 : W4.cell? ⟨w3.heap.size, 1, none⟩ = some (.int .i64 0) := hY4.cell (j := 1) rfl
                have y2 : W4.cell? ⟨w3.heap.size, 2, none⟩ = some (.int .i64 0) := hY4.cell (j := 2) rfl
                clear hX4 hT4 hB4 hY4
                go_wp2_with fail
                go_quiet (fail)
                
                go_wp2_with fail
                go_quiet (fail)
                generalize hW5 : World.drewN _ _ = w5
                have hT5 : LeT w5 w1.heap.size G b v [⟨1, dv, U⟩] := by rw [← hW5]; exact HT4.out.after (Below.drewN (Below.drewN (Below.refl _ _) _) _) (Nat.le_refl _)
                have kX5 : Blk w5 LX 43 #[.int .i64 1, .int .i64 dv, .int .i64 U] := by rw [← hW5]; exact Blk.drewN (Blk.drewN HX4.out _) _
                have hB5 : Below w.heap.size w w5 := by rw [← hW5]; exact Below.drewN (Below.drewN HB4.out _) _
                
                have HOF := of16_any hT5 dv HDV.out.1 HDV.out.2
                rw [ren_of dv U HMU.out] at HOF
                unfold leV leL at HOF
                dsimp only at HOF
                have HT5 : Hid (LeT w5 w1.heap.size G b v [⟨1, dv, U⟩]) := hT5
                have HX5 : Hid (Blk w5 LX 43 #[.int .i64 1, .int .i64 dv, .int .i64 U]) := kX5
                have HB5 : Hid (Below w.heap.size w w5) := hB5
                clear hT5 kX5 hB5
                go_wp2_with fail
                refine HOF.mono ?_
                rintro e w6 ⟨rfl, hb6⟩
                have hbn := low_new hb6 (.cells #[.int .i64 1, .int .i64 dv, .int .i64 U] 43)
                have q0 := (HX5.out.below hbn HX5.out.lt).cell (j := 0) rfl
                have q1 := (HX5.out.below hbn HX5.out.lt).cell (j := 1) rfl
                have q2 := (HX5.out.below hbn HX5.out.lt).cell (j := 2) rfl
                have HBN : Hid (Below w5.heap.size w5 (w6.alloc (.cells #[.int .i64 1, .int .i64 dv, .int .i64 U] 43))) := hbn
                clear hbn hb6 HOF
                go_wp2
                go_roundw
                case rel => exact ⟨k + 1, U, by go_num, hlt, h60, HMU.out, HT5.out.after HBN.out (Nat.le_refl _), HX5.out.below HBN.out HX5.out.lt, HB5.out.trans (HBN.out.mono HB5.out.size)⟩
                case measure => simp [Go.RowKit.intOf]; omega
              · refine op_value 15 10 _ (.pointer (some ⟨wr.drew.heap.size, 0, none⟩)) (wr.drew.alloc (.cells #[.int .i64 0, .int .i64 0, .int .i64 0] 43)) rfl rfl rfl (exec_allocE rfl) ⟨(HSV.out _ (low_new HBW.out.drew _)), ?_⟩
                simp only [Act.put, List.setIfInBounds_toArray, List.set_cons_succ, List.set_cons_zero]
                refine held_all1 11 (by kernel_rfl) (op_call 11 56 _ 17 #[.pointer (some ⟨G, 0, none⟩), .int .i64 1, .int .i64 a, .int .i64 c] rfl rfl rfl (exec_four8 17 _ _ _ _ _ rfl _ _ _ _ rfl rfl rfl rfl Try.call17) (HRA.out.mono ?_))
                rintro e w3 ⟨rfl, hT3, hX3, hB3, hY3, hn1, hn2⟩
                refine ⟨_, rfl, HSV.out w3 hB3, ?_⟩
                simp only [Act.put, List.setIfInBounds_toArray, List.set_cons_succ, List.set_cons_zero]
                refine held_take 12 44 _ (.tuple #[.agg #[.int .i64 0, .int .i64 0, .int .i64 0], .int .i64 1]) rfl rfl (by kernel_rfl) (by kernel_rfl) (by kernel_rfl) rfl (HSV.out w3 hB3) (fun _ _ => rfl) ?_
                simp only [Act.put, List.setIfInBounds_toArray, List.set_cons_succ, List.set_cons_zero]
                refine held_take 13 57 _ (.agg #[.int .i64 0, .int .i64 0, .int .i64 0]) rfl rfl (by kernel_rfl) (by kernel_rfl) (by kernel_rfl) rfl (HSV.out w3 hB3) (fun _ _ => rfl) ?_
                simp only [Act.put, List.setIfInBounds_toArray, List.set_cons_succ, List.set_cons_zero]
                refine held_take 14 58 _ (.int .i64 1) rfl rfl (by kernel_rfl) (by kernel_rfl) (by kernel_rfl) rfl (HSV.out w3 hB3) (fun _ _ => rfl) ?_
                simp only [Act.put, List.setIfInBounds_toArray, List.set_cons_succ, List.set_cons_zero]
                refine held_all1 16 (by kernel_rfl) (op_row 16 _ rfl rfl rfl 43 _ _ rfl (wr.drew.heap.size) #[.int .i64 0, .int .i64 0, .int .i64 0] rfl rfl 43 _ hY3 info_le rfl (by simp [Value.oneCell']) ?_)
                intro W4 hY4 hg4 _
                have hT4 := hT3.store hg4 hn2
                have hX4 := hX3.chg (S := fun q => q = wr.drew.heap.size) (Chg.of_grown hg4 (fun q e => (Option.some.inj e).symm)) hn1
                have hB4 : Below w.heap.size w W4 := below_grown hB3 hg4 hB3.size (fun q hq => by cases hq; exact HBW.out.size)
                refine ⟨HSV.out W4 hB4, ?_⟩
                refine held_take 17 11 _ (.int .i64 1) rfl rfl (by kernel_rfl) (by kernel_rfl) (by kernel_rfl) rfl (HSV.out W4 hB4) (fun _ _ => rfl) ?_
                simp only [Act.put, List.setIfInBounds_toArray, List.set_cons_succ, List.set_cons_zero]
                refine wpAnyH_done (by kernel_rfl) ?_ _
                refine NoPanic.normal ?_
                clear hT3 hX3 hB3 hg4 hY3 hn1 hn2
                have a4 := HCA.out W4 hB4
                have c4 := HCC.out W4 hB4
                have x0 : W4.cell? ⟨LX, 0, none⟩ = some (.int .i64 1) := hX4.cell (j := 0) rfl
                have x1 : W4.cell? ⟨LX, 1, none⟩ = some (.int .i64 dv) := hX4.cell (j := 1) rfl
                have x2 : W4.cell? ⟨LX, 2, none⟩ = some (.int .i64 U) := hX4.cell (j := 2) rfl
                have HX4 : Hid (Blk W4 LX 43 #[.int .i64 1, .int .i64 dv, .int .i64 U]) := hX4
                have HT4 : Hid (LeT W4 w1.heap.size G b v [⟨1, dv, U⟩]) := hT4
                have HB4 : Hid (Below w.heap.size w W4) := hB4
                have y0 : W4.cell? ⟨wr.heap.size, 0, none⟩ = some (.int .i64 0) := hY4.cell (j := 0) rfl
                have y1 : W4.cell? ⟨wr.heap.size, 1, none⟩ = some (.int .i64 0) := hY4.cell (j := 1) rfl
                have y2 : W4.cell? ⟨wr.heap.size, 2, none⟩ = some (.int .i64 0) := hY4.cell (j := 2) rfl
                clear hX4 hT4 hB4 hY4
                go_wp2_with fail
                go_quiet (fail)
                
                go_wp2_with fail
                go_quiet (fail)
                generalize hW5 : World.drewN _ _ = w5
                have hT5 : LeT w5 w1.heap.size G b v [⟨1, dv, U⟩] := by rw [← hW5]; exact HT4.out.after (Below.drewN (Below.drewN (Below.refl _ _) _) _) (Nat.le_refl _)
                have kX5 : Blk w5 LX 43 #[.int .i64 1, .int .i64 dv, .int .i64 U] := by rw [← hW5]; exact Blk.drewN (Blk.drewN HX4.out _) _
                have hB5 : Below w.heap.size w w5 := by rw [← hW5]; exact Below.drewN (Below.drewN HB4.out _) _
                
                have HOF := of16_any hT5 dv HDV.out.1 HDV.out.2
                rw [ren_of dv U HMU.out] at HOF
                unfold leV leL at HOF
                dsimp only at HOF
                have HT5 : Hid (LeT w5 w1.heap.size G b v [⟨1, dv, U⟩]) := hT5
                have HX5 : Hid (Blk w5 LX 43 #[.int .i64 1, .int .i64 dv, .int .i64 U]) := kX5
                have HB5 : Hid (Below w.heap.size w w5) := hB5
                clear hT5 kX5 hB5
                go_wp2_with fail
                refine HOF.mono ?_
                rintro e w6 ⟨rfl, hb6⟩
                have hbn := low_new hb6 (.cells #[.int .i64 1, .int .i64 dv, .int .i64 U] 43)
                have q0 := (HX5.out.below hbn HX5.out.lt).cell (j := 0) rfl
                have q1 := (HX5.out.below hbn HX5.out.lt).cell (j := 1) rfl
                have q2 := (HX5.out.below hbn HX5.out.lt).cell (j := 2) rfl
                have HBN : Hid (Below w5.heap.size w5 (w6.alloc (.cells #[.int .i64 1, .int .i64 dv, .int .i64 U] 43))) := hbn
                clear hbn hb6 HOF
                go_wp2
                go_roundw
                case rel => exact ⟨k + 1, U, by go_num, hlt, h60, HMU.out, HT5.out.after HBN.out (Nat.le_refl _), HX5.out.below HBN.out HX5.out.lt, HB5.out.trans (HBN.out.mono HB5.out.size)⟩
                case measure => simp [Go.RowKit.intOf]; omega
          · have d1 : decide (a ≤ 1099511627776) = false := decide_eq_false m1
            have HMU : Hid (0 < U) := HU.out
            have HRN : Hid (∀ W, Below wr.heap.size wr W → Calls Try.prog 17 #[.pointer (some ⟨G, 0, none⟩), .int .i64 1, .int .i64 a, .int .i64 c] W fun e w' => e = .returned (.tuple #[.agg #[.int .i64 0, .int .i64 0, .int .i64 0], .int .i64 1]) ∧ LeT w' w1.heap.size G b v [⟨1, dv, U⟩] ∧ Chg (LeM G b v) W w') := fun W hW => by
              have := renew16_any (HT.out.after hW (Nat.le_refl _)) 1 a c
              rw [ren_bad _ a c (.inl (by unfold moT; exact decide_eq_false (by omega)))] at this
              exact this
            have HRA : Hid (Calls Try.prog 17 #[.pointer (some ⟨G, 0, none⟩), .int .i64 1, .int .i64 a, .int .i64 c] (wr.drew.alloc (.cells #[.int .i64 0, .int .i64 0, .int .i64 0] 43)) fun e w' => e = .returned (.tuple #[.agg #[.int .i64 0, .int .i64 0, .int .i64 0], .int .i64 1]) ∧ LeT w' w1.heap.size G b v [⟨1, dv, U⟩] ∧ Blk w' LX 43 #[.int .i64 1, .int .i64 dv, .int .i64 U] ∧ Below w.heap.size w w' ∧ Blk w' wr.drew.heap.size 43 #[.int .i64 0, .int .i64 0, .int .i64 0] ∧ LX ≠ wr.drew.heap.size ∧ ¬ LeM G b v wr.drew.heap.size) := (HRN.out _ (((Below.refl _ wr).drew).alloc (Nat.le_refl _) _)).mono (fun e w' ⟨q1, q2, q3⟩ => ⟨q1, q2, ((HX.out.drew).below (below_newE wr.drew _) HX.out.lt).chg q3 HNX.out, (low_new HBW.out.drew _).trans (q3.below (fun q hq => Nat.le_trans HS.out (HGV.out q hq)) (low_new HBW.out.drew (.cells #[.int .i64 0, .int .i64 0, .int .i64 0] 43)).size), (Blk.new wr.drew 43 #[.int .i64 0, .int .i64 0, .int .i64 0]).chg q3 (HT.out.fresh (Nat.le_refl _)), Nat.ne_of_lt HX.out.lt, HT.out.fresh (Nat.le_refl _)⟩)
            have HRB : Hid (Calls Try.prog 17 #[.pointer (some ⟨G, 0, none⟩), .int .i64 1, .int .i64 a, .int .i64 c] wr.drew fun e w' => e = .returned (.tuple #[.agg #[.int .i64 0, .int .i64 0, .int .i64 0], .int .i64 1]) ∧ LeT w' w1.heap.size G b v [⟨1, dv, U⟩] ∧ Blk w' LX 43 #[.int .i64 1, .int .i64 dv, .int .i64 U] ∧ Below w.heap.size w w') := (HRN.out _ (Below.refl _ _).drew).mono (fun e w' ⟨q1, q2, q3⟩ => ⟨q1, q2, (HX.out.drew).chg q3 HNX.out, (HBW.out.drew).trans (q3.below (fun q hq => Nat.le_trans HS.out (HGV.out q hq)) HBW.out.size)⟩)
            clear HRN m0 m1
            go_wp2_with fail
            refine held_begin (fun V => V.cell? ⟨bd, off + k * 2, none⟩ = some (.int .i64 a) ∧ V.cell? ⟨bd, off + k * 2 + 1, none⟩ = some (.int .i64 c)) (by kernel_rfl) ?_
            refine held_take 0 45 _ (.pointer (some ⟨G, 0, none⟩)) rfl rfl (by kernel_rfl) (by kernel_rfl) (by kernel_rfl) rfl hS0 (fun _ _ => rfl) ?_
            simp only [Act.put, List.setIfInBounds_toArray, List.set_cons_succ, List.set_cons_zero]
            refine held_take 1 46 _ (.slice (some ⟨bd, off, none⟩) ps.length cx) rfl rfl (by kernel_rfl) (by kernel_rfl) (by kernel_rfl) rfl hS0 (fun _ _ => rfl) ?_
            simp only [Act.put, List.setIfInBounds_toArray, List.set_cons_succ, List.set_cons_zero]
            refine held_take 2 47 _ (.int .i64 (k : Int)) rfl rfl (by kernel_rfl) (by kernel_rfl) (by kernel_rfl) rfl hS0 (fun _ _ => rfl) ?_
            simp only [Act.put, List.setIfInBounds_toArray, List.set_cons_succ, List.set_cons_zero]
            refine held_take 3 48 _ (.pointer (some ⟨bd, off + k * 2, none⟩)) rfl rfl (by kernel_rfl) (by kernel_rfl) (by kernel_rfl) rfl hS0 (fun V hV => exec_indexat 53 _ _ rfl (.slice (some ⟨bd, off, none⟩) ps.length cx) (.int .i64 (k : Int)) _ rfl rfl (HIX.out V)) ?_
            simp only [Act.put, List.setIfInBounds_toArray, List.set_cons_succ, List.set_cons_zero]
            refine held_take 4 49 _ (.pointer (some ⟨bd, off + k * 2, none⟩)) rfl rfl (by kernel_rfl) (by kernel_rfl) (by kernel_rfl) rfl hS0 (fun V hV => exec_indexat 54 _ _ rfl (.pointer (some ⟨bd, off + k * 2, none⟩)) (.int .i64 0) _ rfl rfl (index_a16 bd (off + k * 2) 0 (by omega) V)) ?_
            simp only [Act.put, List.setIfInBounds_toArray, List.set_cons_succ, List.set_cons_zero]
            refine held_take 5 50 _ (.int .i64 a) rfl rfl (by kernel_rfl) (by kernel_rfl) (by kernel_rfl) rfl hS0 (fun V hV => exec_loadc 3 _ rfl _ _ rfl (load_one 3 (fun _ => by kernel_rfl) V _ _ _ hV.1)) ?_
            simp only [Act.put, List.setIfInBounds_toArray, List.set_cons_succ, List.set_cons_zero]
            refine held_take 6 51 _ (.slice (some ⟨bd, off, none⟩) ps.length cx) rfl rfl (by kernel_rfl) (by kernel_rfl) (by kernel_rfl) rfl hS0 (fun _ _ => rfl) ?_
            simp only [Act.put, List.setIfInBounds_toArray, List.set_cons_succ, List.set_cons_zero]
            refine held_take 7 52 _ (.int .i64 (k : Int)) rfl rfl (by kernel_rfl) (by kernel_rfl) (by kernel_rfl) rfl hS0 (fun _ _ => rfl) ?_
            simp only [Act.put, List.setIfInBounds_toArray, List.set_cons_succ, List.set_cons_zero]
            refine held_take 8 53 _ (.pointer (some ⟨bd, off + k * 2, none⟩)) rfl rfl (by kernel_rfl) (by kernel_rfl) (by kernel_rfl) rfl hS0 (fun V hV => exec_indexat 53 _ _ rfl (.slice (some ⟨bd, off, none⟩) ps.length cx) (.int .i64 (k : Int)) _ rfl rfl (HIX.out V)) ?_
            simp only [Act.put, List.setIfInBounds_toArray, List.set_cons_succ, List.set_cons_zero]
            refine held_take 9 54 _ (.pointer (some ⟨bd, off + k * 2 + 1, none⟩)) rfl rfl (by kernel_rfl) (by kernel_rfl) (by kernel_rfl) rfl hS0 (fun V hV => exec_indexat 54 _ _ rfl (.pointer (some ⟨bd, off + k * 2, none⟩)) (.int .i64 1) _ rfl rfl (index_a16 bd (off + k * 2) 1 (by omega) V)) ?_
            simp only [Act.put, List.setIfInBounds_toArray, List.set_cons_succ, List.set_cons_zero]
            refine held_take 10 55 _ (.int .i64 c) rfl rfl (by kernel_rfl) (by kernel_rfl) (by kernel_rfl) rfl hS0 (fun V hV => exec_loadc 3 _ rfl _ _ rfl (load_one 3 (fun _ => by kernel_rfl) V _ _ _ hV.2)) ?_
            simp only [Act.put, List.setIfInBounds_toArray, List.set_cons_succ, List.set_cons_zero]
            refine held_all2 11 15 (by kernel_rfl) ?_ ?_
            · refine op_call 11 56 _ 17 #[.pointer (some ⟨G, 0, none⟩), .int .i64 1, .int .i64 a, .int .i64 c] rfl rfl rfl (exec_four8 17 _ _ _ _ _ rfl _ _ _ _ rfl rfl rfl rfl Try.call17) (HRB.out.mono ?_)
              rintro e w3 ⟨rfl, hT3, hX3, hB3⟩
              refine ⟨_, rfl, HSV.out w3 hB3, ?_⟩
              simp only [Act.put, List.setIfInBounds_toArray, List.set_cons_succ, List.set_cons_zero]
              refine held_take 12 44 _ (.tuple #[.agg #[.int .i64 0, .int .i64 0, .int .i64 0], .int .i64 1]) rfl rfl (by kernel_rfl) (by kernel_rfl) (by kernel_rfl) rfl (HSV.out w3 hB3) (fun _ _ => rfl) ?_
              simp only [Act.put, List.setIfInBounds_toArray, List.set_cons_succ, List.set_cons_zero]
              refine held_take 13 57 _ (.agg #[.int .i64 0, .int .i64 0, .int .i64 0]) rfl rfl (by kernel_rfl) (by kernel_rfl) (by kernel_rfl) rfl (HSV.out w3 hB3) (fun _ _ => rfl) ?_
              simp only [Act.put, List.setIfInBounds_toArray, List.set_cons_succ, List.set_cons_zero]
              refine held_take 14 58 _ (.int .i64 1) rfl rfl (by kernel_rfl) (by kernel_rfl) (by kernel_rfl) rfl (HSV.out w3 hB3) (fun _ _ => rfl) ?_
              simp only [Act.put, List.setIfInBounds_toArray, List.set_cons_succ, List.set_cons_zero]
              refine held_all1 15 (by kernel_rfl) (op_value 15 10 _ (.pointer (some ⟨w3.heap.size, 0, none⟩)) (w3.alloc (.cells #[.int .i64 0, .int .i64 0, .int .i64 0] 43)) rfl rfl rfl (exec_allocE rfl) ⟨(HSV.out _ (low_new hB3 _)), ?_⟩)
              simp only [Act.put, List.setIfInBounds_toArray, List.set_cons_succ, List.set_cons_zero]
              refine held_all1 16 (by kernel_rfl) (op_row 16 _ rfl rfl rfl 43 _ _ rfl (w3.heap.size) #[.int .i64 0, .int .i64 0, .int .i64 0] rfl rfl 43 _ (Blk.new w3 43 #[.int .i64 0, .int .i64 0, .int .i64 0]) info_le rfl (by simp [Value.oneCell']) ?_)
              intro W4 hY4 hg4 _
              have hT4 := (hT3.after (below_newE w3 _) (Nat.le_refl _)).store hg4 (hT3.fresh (Nat.le_refl _))
              have hX4 := (hX3.below (below_newE w3 _) hX3.lt).chg (S := fun q => q = w3.heap.size) (Chg.of_grown hg4 (fun q e => (Option.some.inj e).symm)) (Nat.ne_of_lt hX3.lt)
              have hB4 : Below w.heap.size w W4 := below_grown (low_new hB3 _) hg4 (low_new hB3 _).size (fun q hq => by cases hq; exact hB3.size)
              refine ⟨HSV.out W4 hB4, ?_⟩
              refine held_take 17 11 _ (.int .i64 1) rfl rfl (by kernel_rfl) (by kernel_rfl) (by kernel_rfl) rfl (HSV.out W4 hB4) (fun _ _ => rfl) ?_
              simp only [Act.put, List.setIfInBounds_toArray, List.set_cons_succ, List.set_cons_zero]
              refine wpAnyH_done (by kernel_rfl) ?_ _
              refine NoPanic.normal ?_
              clear hT3 hX3 hB3 hg4
              have a4 := HCA.out W4 hB4
              have c4 := HCC.out W4 hB4
              have x0 : W4.cell? ⟨LX, 0, none⟩ = some (.int .i64 1) := hX4.cell (j := 0) rfl
              have x1 : W4.cell? ⟨LX, 1, none⟩ = some (.int .i64 dv) := hX4.cell (j := 1) rfl
              have x2 : W4.cell? ⟨LX, 2, none⟩ = some (.int .i64 U) := hX4.cell (j := 2) rfl
              have HX4 : Hid (Blk W4 LX 43 #[.int .i64 1, .int .i64 dv, .int .i64 U]) := hX4
              have HT4 : Hid (LeT W4 w1.heap.size G b v [⟨1, dv, U⟩]) := hT4
              have HB4 : Hid (Below w.heap.size w W4) := hB4
              have y0 : W4.cell? ⟨w3.heap.size, 0, none⟩ = some (.int .i64 0) := hY4.cell (j := 0) rfl
              have y1 : W4.cell? ⟨w3.heap.size, 1, none⟩ = some (.int .i64 0) := hY4.cell (j := 1) rfl
              have y2 : W4.cell? ⟨w3.heap.size, 2, none⟩ = some (.int .i64 0) := hY4.cell (j := 2) rfl
              clear hX4 hT4 hB4 hY4
              go_wp2_with fail
              go_quiet (fail)
              
              go_wp2_with fail
              go_quiet (fail)
              generalize hW5 : World.drewN _ _ = w5
              have hT5 : LeT w5 w1.heap.size G b v [⟨1, dv, U⟩] := by rw [← hW5]; exact HT4.out.after (Below.drewN (Below.drewN (Below.refl _ _) _) _) (Nat.le_refl _)
              have kX5 : Blk w5 LX 43 #[.int .i64 1, .int .i64 dv, .int .i64 U] := by rw [← hW5]; exact Blk.drewN (Blk.drewN HX4.out _) _
              have hB5 : Below w.heap.size w w5 := by rw [← hW5]; exact Below.drewN (Below.drewN HB4.out _) _
              
              have HOF := of16_any hT5 dv HDV.out.1 HDV.out.2
              rw [ren_of dv U HMU.out] at HOF
              unfold leV leL at HOF
              dsimp only at HOF
              have HT5 : Hid (LeT w5 w1.heap.size G b v [⟨1, dv, U⟩]) := hT5
              have HX5 : Hid (Blk w5 LX 43 #[.int .i64 1, .int .i64 dv, .int .i64 U]) := kX5
              have HB5 : Hid (Below w.heap.size w w5) := hB5
              clear hT5 kX5 hB5
              go_wp2_with fail
              refine HOF.mono ?_
              rintro e w6 ⟨rfl, hb6⟩
              have hbn := low_new hb6 (.cells #[.int .i64 1, .int .i64 dv, .int .i64 U] 43)
              have q0 := (HX5.out.below hbn HX5.out.lt).cell (j := 0) rfl
              have q1 := (HX5.out.below hbn HX5.out.lt).cell (j := 1) rfl
              have q2 := (HX5.out.below hbn HX5.out.lt).cell (j := 2) rfl
              have HBN : Hid (Below w5.heap.size w5 (w6.alloc (.cells #[.int .i64 1, .int .i64 dv, .int .i64 U] 43))) := hbn
              clear hbn hb6 HOF
              go_wp2
              go_roundw
              case rel => exact ⟨k + 1, U, by go_num, hlt, h60, HMU.out, HT5.out.after HBN.out (Nat.le_refl _), HX5.out.below HBN.out HX5.out.lt, HB5.out.trans (HBN.out.mono HB5.out.size)⟩
              case measure => simp [Go.RowKit.intOf]; omega
            · refine op_value 15 10 _ (.pointer (some ⟨wr.drew.heap.size, 0, none⟩)) (wr.drew.alloc (.cells #[.int .i64 0, .int .i64 0, .int .i64 0] 43)) rfl rfl rfl (exec_allocE rfl) ⟨(HSV.out _ (low_new HBW.out.drew _)), ?_⟩
              simp only [Act.put, List.setIfInBounds_toArray, List.set_cons_succ, List.set_cons_zero]
              refine held_all1 11 (by kernel_rfl) (op_call 11 56 _ 17 #[.pointer (some ⟨G, 0, none⟩), .int .i64 1, .int .i64 a, .int .i64 c] rfl rfl rfl (exec_four8 17 _ _ _ _ _ rfl _ _ _ _ rfl rfl rfl rfl Try.call17) (HRA.out.mono ?_))
              rintro e w3 ⟨rfl, hT3, hX3, hB3, hY3, hn1, hn2⟩
              refine ⟨_, rfl, HSV.out w3 hB3, ?_⟩
              simp only [Act.put, List.setIfInBounds_toArray, List.set_cons_succ, List.set_cons_zero]
              refine held_take 12 44 _ (.tuple #[.agg #[.int .i64 0, .int .i64 0, .int .i64 0], .int .i64 1]) rfl rfl (by kernel_rfl) (by kernel_rfl) (by kernel_rfl) rfl (HSV.out w3 hB3) (fun _ _ => rfl) ?_
              simp only [Act.put, List.setIfInBounds_toArray, List.set_cons_succ, List.set_cons_zero]
              refine held_take 13 57 _ (.agg #[.int .i64 0, .int .i64 0, .int .i64 0]) rfl rfl (by kernel_rfl) (by kernel_rfl) (by kernel_rfl) rfl (HSV.out w3 hB3) (fun _ _ => rfl) ?_
              simp only [Act.put, List.setIfInBounds_toArray, List.set_cons_succ, List.set_cons_zero]
              refine held_take 14 58 _ (.int .i64 1) rfl rfl (by kernel_rfl) (by kernel_rfl) (by kernel_rfl) rfl (HSV.out w3 hB3) (fun _ _ => rfl) ?_
              simp only [Act.put, List.setIfInBounds_toArray, List.set_cons_succ, List.set_cons_zero]
              refine held_all1 16 (by kernel_rfl) (op_row 16 _ rfl rfl rfl 43 _ _ rfl (wr.drew.heap.size) #[.int .i64 0, .int .i64 0, .int .i64 0] rfl rfl 43 _ hY3 info_le rfl (by simp [Value.oneCell']) ?_)
              intro W4 hY4 hg4 _
              have hT4 := hT3.store hg4 hn2
              have hX4 := hX3.chg (S := fun q => q = wr.drew.heap.size) (Chg.of_grown hg4 (fun q e => (Option.some.inj e).symm)) hn1
              have hB4 : Below w.heap.size w W4 := below_grown hB3 hg4 hB3.size (fun q hq => by cases hq; exact HBW.out.size)
              refine ⟨HSV.out W4 hB4, ?_⟩
              refine held_take 17 11 _ (.int .i64 1) rfl rfl (by kernel_rfl) (by kernel_rfl) (by kernel_rfl) rfl (HSV.out W4 hB4) (fun _ _ => rfl) ?_
              simp only [Act.put, List.setIfInBounds_toArray, List.set_cons_succ, List.set_cons_zero]
              refine wpAnyH_done (by kernel_rfl) ?_ _
              refine NoPanic.normal ?_
              clear hT3 hX3 hB3 hg4 hY3 hn1 hn2
              have a4 := HCA.out W4 hB4
              have c4 := HCC.out W4 hB4
              have x0 : W4.cell? ⟨LX, 0, none⟩ = some (.int .i64 1) := hX4.cell (j := 0) rfl
              have x1 : W4.cell? ⟨LX, 1, none⟩ = some (.int .i64 dv) := hX4.cell (j := 1) rfl
              have x2 : W4.cell? ⟨LX, 2, none⟩ = some (.int .i64 U) := hX4.cell (j := 2) rfl
              have HX4 : Hid (Blk W4 LX 43 #[.int .i64 1, .int .i64 dv, .int .i64 U]) := hX4
              have HT4 : Hid (LeT W4 w1.heap.size G b v [⟨1, dv, U⟩]) := hT4
              have HB4 : Hid (Below w.heap.size w W4) := hB4
              have y0 : W4.cell? ⟨wr.heap.size, 0, none⟩ = some (.int .i64 0) := hY4.cell (j := 0) rfl
              have y1 : W4.cell? ⟨wr.heap.size, 1, none⟩ = some (.int .i64 0) := hY4.cell (j := 1) rfl
              have y2 : W4.cell? ⟨wr.heap.size, 2, none⟩ = some (.int .i64 0) := hY4.cell (j := 2) rfl
              clear hX4 hT4 hB4 hY4
              go_wp2_with fail
              go_quiet (fail)
              
              go_wp2_with fail
              go_quiet (fail)
              generalize hW5 : World.drewN _ _ = w5
              have hT5 : LeT w5 w1.heap.size G b v [⟨1, dv, U⟩] := by rw [← hW5]; exact HT4.out.after (Below.drewN (Below.drewN (Below.refl _ _) _) _) (Nat.le_refl _)
              have kX5 : Blk w5 LX 43 #[.int .i64 1, .int .i64 dv, .int .i64 U] := by rw [← hW5]; exact Blk.drewN (Blk.drewN HX4.out _) _
              have hB5 : Below w.heap.size w w5 := by rw [← hW5]; exact Below.drewN (Below.drewN HB4.out _) _
              
              have HOF := of16_any hT5 dv HDV.out.1 HDV.out.2
              rw [ren_of dv U HMU.out] at HOF
              unfold leV leL at HOF
              dsimp only at HOF
              have HT5 : Hid (LeT w5 w1.heap.size G b v [⟨1, dv, U⟩]) := hT5
              have HX5 : Hid (Blk w5 LX 43 #[.int .i64 1, .int .i64 dv, .int .i64 U]) := kX5
              have HB5 : Hid (Below w.heap.size w w5) := hB5
              clear hT5 kX5 hB5
              go_wp2_with fail
              refine HOF.mono ?_
              rintro e w6 ⟨rfl, hb6⟩
              have hbn := low_new hb6 (.cells #[.int .i64 1, .int .i64 dv, .int .i64 U] 43)
              have q0 := (HX5.out.below hbn HX5.out.lt).cell (j := 0) rfl
              have q1 := (HX5.out.below hbn HX5.out.lt).cell (j := 1) rfl
              have q2 := (HX5.out.below hbn HX5.out.lt).cell (j := 2) rfl
              have HBN : Hid (Below w5.heap.size w5 (w6.alloc (.cells #[.int .i64 1, .int .i64 dv, .int .i64 U] 43))) := hbn
              clear hbn hb6 HOF
              go_wp2
              go_roundw
              case rel => exact ⟨k + 1, U, by go_num, hlt, h60, HMU.out, HT5.out.after HBN.out (Nat.le_refl _), HX5.out.below HBN.out HX5.out.lt, HB5.out.trans (HBN.out.mono HB5.out.size)⟩
              case measure => simp [Go.RowKit.intOf]; omega
        · have d0 : decide ((0 : Int) ≤ a) = false := decide_eq_false m0
          have HMU : Hid (0 < U) := HU.out
          have HRN : Hid (∀ W, Below wr.heap.size wr W → Calls Try.prog 17 #[.pointer (some ⟨G, 0, none⟩), .int .i64 1, .int .i64 a, .int .i64 c] W fun e w' => e = .returned (.tuple #[.agg #[.int .i64 0, .int .i64 0, .int .i64 0], .int .i64 1]) ∧ LeT w' w1.heap.size G b v [⟨1, dv, U⟩] ∧ Chg (LeM G b v) W w') := fun W hW => by
            have := renew16_any (HT.out.after hW (Nat.le_refl _)) 1 a c
            rw [ren_bad _ a c (.inl (by unfold moT; exact decide_eq_false (by omega)))] at this
            exact this
          have HRA : Hid (Calls Try.prog 17 #[.pointer (some ⟨G, 0, none⟩), .int .i64 1, .int .i64 a, .int .i64 c] (wr.drew.alloc (.cells #[.int .i64 0, .int .i64 0, .int .i64 0] 43)) fun e w' => e = .returned (.tuple #[.agg #[.int .i64 0, .int .i64 0, .int .i64 0], .int .i64 1]) ∧ LeT w' w1.heap.size G b v [⟨1, dv, U⟩] ∧ Blk w' LX 43 #[.int .i64 1, .int .i64 dv, .int .i64 U] ∧ Below w.heap.size w w' ∧ Blk w' wr.drew.heap.size 43 #[.int .i64 0, .int .i64 0, .int .i64 0] ∧ LX ≠ wr.drew.heap.size ∧ ¬ LeM G b v wr.drew.heap.size) := (HRN.out _ (((Below.refl _ wr).drew).alloc (Nat.le_refl _) _)).mono (fun e w' ⟨q1, q2, q3⟩ => ⟨q1, q2, ((HX.out.drew).below (below_newE wr.drew _) HX.out.lt).chg q3 HNX.out, (low_new HBW.out.drew _).trans (q3.below (fun q hq => Nat.le_trans HS.out (HGV.out q hq)) (low_new HBW.out.drew (.cells #[.int .i64 0, .int .i64 0, .int .i64 0] 43)).size), (Blk.new wr.drew 43 #[.int .i64 0, .int .i64 0, .int .i64 0]).chg q3 (HT.out.fresh (Nat.le_refl _)), Nat.ne_of_lt HX.out.lt, HT.out.fresh (Nat.le_refl _)⟩)
          have HRB : Hid (Calls Try.prog 17 #[.pointer (some ⟨G, 0, none⟩), .int .i64 1, .int .i64 a, .int .i64 c] wr.drew fun e w' => e = .returned (.tuple #[.agg #[.int .i64 0, .int .i64 0, .int .i64 0], .int .i64 1]) ∧ LeT w' w1.heap.size G b v [⟨1, dv, U⟩] ∧ Blk w' LX 43 #[.int .i64 1, .int .i64 dv, .int .i64 U] ∧ Below w.heap.size w w') := (HRN.out _ (Below.refl _ _).drew).mono (fun e w' ⟨q1, q2, q3⟩ => ⟨q1, q2, (HX.out.drew).chg q3 HNX.out, (HBW.out.drew).trans (q3.below (fun q hq => Nat.le_trans HS.out (HGV.out q hq)) HBW.out.size)⟩)
          clear HRN m0
          go_wp2_with fail
          refine held_begin (fun V => V.cell? ⟨bd, off + k * 2, none⟩ = some (.int .i64 a) ∧ V.cell? ⟨bd, off + k * 2 + 1, none⟩ = some (.int .i64 c)) (by kernel_rfl) ?_
          refine held_take 0 45 _ (.pointer (some ⟨G, 0, none⟩)) rfl rfl (by kernel_rfl) (by kernel_rfl) (by kernel_rfl) rfl hS0 (fun _ _ => rfl) ?_
          simp only [Act.put, List.setIfInBounds_toArray, List.set_cons_succ, List.set_cons_zero]
          refine held_take 1 46 _ (.slice (some ⟨bd, off, none⟩) ps.length cx) rfl rfl (by kernel_rfl) (by kernel_rfl) (by kernel_rfl) rfl hS0 (fun _ _ => rfl) ?_
          simp only [Act.put, List.setIfInBounds_toArray, List.set_cons_succ, List.set_cons_zero]
          refine held_take 2 47 _ (.int .i64 (k : Int)) rfl rfl (by kernel_rfl) (by kernel_rfl) (by kernel_rfl) rfl hS0 (fun _ _ => rfl) ?_
          simp only [Act.put, List.setIfInBounds_toArray, List.set_cons_succ, List.set_cons_zero]
          refine held_take 3 48 _ (.pointer (some ⟨bd, off + k * 2, none⟩)) rfl rfl (by kernel_rfl) (by kernel_rfl) (by kernel_rfl) rfl hS0 (fun V hV => exec_indexat 53 _ _ rfl (.slice (some ⟨bd, off, none⟩) ps.length cx) (.int .i64 (k : Int)) _ rfl rfl (HIX.out V)) ?_
          simp only [Act.put, List.setIfInBounds_toArray, List.set_cons_succ, List.set_cons_zero]
          refine held_take 4 49 _ (.pointer (some ⟨bd, off + k * 2, none⟩)) rfl rfl (by kernel_rfl) (by kernel_rfl) (by kernel_rfl) rfl hS0 (fun V hV => exec_indexat 54 _ _ rfl (.pointer (some ⟨bd, off + k * 2, none⟩)) (.int .i64 0) _ rfl rfl (index_a16 bd (off + k * 2) 0 (by omega) V)) ?_
          simp only [Act.put, List.setIfInBounds_toArray, List.set_cons_succ, List.set_cons_zero]
          refine held_take 5 50 _ (.int .i64 a) rfl rfl (by kernel_rfl) (by kernel_rfl) (by kernel_rfl) rfl hS0 (fun V hV => exec_loadc 3 _ rfl _ _ rfl (load_one 3 (fun _ => by kernel_rfl) V _ _ _ hV.1)) ?_
          simp only [Act.put, List.setIfInBounds_toArray, List.set_cons_succ, List.set_cons_zero]
          refine held_take 6 51 _ (.slice (some ⟨bd, off, none⟩) ps.length cx) rfl rfl (by kernel_rfl) (by kernel_rfl) (by kernel_rfl) rfl hS0 (fun _ _ => rfl) ?_
          simp only [Act.put, List.setIfInBounds_toArray, List.set_cons_succ, List.set_cons_zero]
          refine held_take 7 52 _ (.int .i64 (k : Int)) rfl rfl (by kernel_rfl) (by kernel_rfl) (by kernel_rfl) rfl hS0 (fun _ _ => rfl) ?_
          simp only [Act.put, List.setIfInBounds_toArray, List.set_cons_succ, List.set_cons_zero]
          refine held_take 8 53 _ (.pointer (some ⟨bd, off + k * 2, none⟩)) rfl rfl (by kernel_rfl) (by kernel_rfl) (by kernel_rfl) rfl hS0 (fun V hV => exec_indexat 53 _ _ rfl (.slice (some ⟨bd, off, none⟩) ps.length cx) (.int .i64 (k : Int)) _ rfl rfl (HIX.out V)) ?_
          simp only [Act.put, List.setIfInBounds_toArray, List.set_cons_succ, List.set_cons_zero]
          refine held_take 9 54 _ (.pointer (some ⟨bd, off + k * 2 + 1, none⟩)) rfl rfl (by kernel_rfl) (by kernel_rfl) (by kernel_rfl) rfl hS0 (fun V hV => exec_indexat 54 _ _ rfl (.pointer (some ⟨bd, off + k * 2, none⟩)) (.int .i64 1) _ rfl rfl (index_a16 bd (off + k * 2) 1 (by omega) V)) ?_
          simp only [Act.put, List.setIfInBounds_toArray, List.set_cons_succ, List.set_cons_zero]
          refine held_take 10 55 _ (.int .i64 c) rfl rfl (by kernel_rfl) (by kernel_rfl) (by kernel_rfl) rfl hS0 (fun V hV => exec_loadc 3 _ rfl _ _ rfl (load_one 3 (fun _ => by kernel_rfl) V _ _ _ hV.2)) ?_
          simp only [Act.put, List.setIfInBounds_toArray, List.set_cons_succ, List.set_cons_zero]
          refine held_all2 11 15 (by kernel_rfl) ?_ ?_
          · refine op_call 11 56 _ 17 #[.pointer (some ⟨G, 0, none⟩), .int .i64 1, .int .i64 a, .int .i64 c] rfl rfl rfl (exec_four8 17 _ _ _ _ _ rfl _ _ _ _ rfl rfl rfl rfl Try.call17) (HRB.out.mono ?_)
            rintro e w3 ⟨rfl, hT3, hX3, hB3⟩
            refine ⟨_, rfl, HSV.out w3 hB3, ?_⟩
            simp only [Act.put, List.setIfInBounds_toArray, List.set_cons_succ, List.set_cons_zero]
            refine held_take 12 44 _ (.tuple #[.agg #[.int .i64 0, .int .i64 0, .int .i64 0], .int .i64 1]) rfl rfl (by kernel_rfl) (by kernel_rfl) (by kernel_rfl) rfl (HSV.out w3 hB3) (fun _ _ => rfl) ?_
            simp only [Act.put, List.setIfInBounds_toArray, List.set_cons_succ, List.set_cons_zero]
            refine held_take 13 57 _ (.agg #[.int .i64 0, .int .i64 0, .int .i64 0]) rfl rfl (by kernel_rfl) (by kernel_rfl) (by kernel_rfl) rfl (HSV.out w3 hB3) (fun _ _ => rfl) ?_
            simp only [Act.put, List.setIfInBounds_toArray, List.set_cons_succ, List.set_cons_zero]
            refine held_take 14 58 _ (.int .i64 1) rfl rfl (by kernel_rfl) (by kernel_rfl) (by kernel_rfl) rfl (HSV.out w3 hB3) (fun _ _ => rfl) ?_
            simp only [Act.put, List.setIfInBounds_toArray, List.set_cons_succ, List.set_cons_zero]
            refine held_all1 15 (by kernel_rfl) (op_value 15 10 _ (.pointer (some ⟨w3.heap.size, 0, none⟩)) (w3.alloc (.cells #[.int .i64 0, .int .i64 0, .int .i64 0] 43)) rfl rfl rfl (exec_allocE rfl) ⟨(HSV.out _ (low_new hB3 _)), ?_⟩)
            simp only [Act.put, List.setIfInBounds_toArray, List.set_cons_succ, List.set_cons_zero]
            refine held_all1 16 (by kernel_rfl) (op_row 16 _ rfl rfl rfl 43 _ _ rfl (w3.heap.size) #[.int .i64 0, .int .i64 0, .int .i64 0] rfl rfl 43 _ (Blk.new w3 43 #[.int .i64 0, .int .i64 0, .int .i64 0]) info_le rfl (by simp [Value.oneCell']) ?_)
            intro W4 hY4 hg4 _
            have hT4 := (hT3.after (below_newE w3 _) (Nat.le_refl _)).store hg4 (hT3.fresh (Nat.le_refl _))
            have hX4 := (hX3.below (below_newE w3 _) hX3.lt).chg (S := fun q => q = w3.heap.size) (Chg.of_grown hg4 (fun q e => (Option.some.inj e).symm)) (Nat.ne_of_lt hX3.lt)
            have hB4 : Below w.heap.size w W4 := below_grown (low_new hB3 _) hg4 (low_new hB3 _).size (fun q hq => by cases hq; exact hB3.size)
            refine ⟨HSV.out W4 hB4, ?_⟩
            refine held_take 17 11 _ (.int .i64 1) rfl rfl (by kernel_rfl) (by kernel_rfl) (by kernel_rfl) rfl (HSV.out W4 hB4) (fun _ _ => rfl) ?_
            simp only [Act.put, List.setIfInBounds_toArray, List.set_cons_succ, List.set_cons_zero]
            refine wpAnyH_done (by kernel_rfl) ?_ _
            refine NoPanic.normal ?_
            clear hT3 hX3 hB3 hg4
            have a4 := HCA.out W4 hB4
            have c4 := HCC.out W4 hB4
            have x0 : W4.cell? ⟨LX, 0, none⟩ = some (.int .i64 1) := hX4.cell (j := 0) rfl
            have x1 : W4.cell? ⟨LX, 1, none⟩ = some (.int .i64 dv) := hX4.cell (j := 1) rfl
            have x2 : W4.cell? ⟨LX, 2, none⟩ = some (.int .i64 U) := hX4.cell (j := 2) rfl
            have HX4 : Hid (Blk W4 LX 43 #[.int .i64 1, .int .i64 dv, .int .i64 U]) := hX4
            have HT4 : Hid (LeT W4 w1.heap.size G b v [⟨1, dv, U⟩]) := hT4
            have HB4 : Hid (Below w.heap.size w W4) := hB4
            have y0 : W4.cell? ⟨w3.heap.size, 0, none⟩ = some (.int .i64 0) := hY4.cell (j := 0) rfl
            have y1 : W4.cell? ⟨w3.heap.size, 1, none⟩ = some (.int .i64 0) := hY4.cell (j := 1) rfl
            have y2 : W4.cell? ⟨w3.heap.size, 2, none⟩ = some (.int .i64 0) := hY4.cell (j := 2) rfl
            clear hX4 hT4 hB4 hY4
            go_wp2_with fail
            go_quiet (fail)
            
            go_wp2_with fail
            go_quiet (fail)
            generalize hW5 : World.drewN _ _ = w5
            have hT5 : LeT w5 w1.heap.size G b v [⟨1, dv, U⟩] := by rw [← hW5]; exact HT4.out.after (Below.drewN (Below.drewN (Below.refl _ _) _) _) (Nat.le_refl _)
            have kX5 : Blk w5 LX 43 #[.int .i64 1, .int .i64 dv, .int .i64 U] := by rw [← hW5]; exact Blk.drewN (Blk.drewN HX4.out _) _
            have hB5 : Below w.heap.size w w5 := by rw [← hW5]; exact Below.drewN (Below.drewN HB4.out _) _
            
            have HOF := of16_any hT5 dv HDV.out.1 HDV.out.2
            rw [ren_of dv U HMU.out] at HOF
            unfold leV leL at HOF
            dsimp only at HOF
            have HT5 : Hid (LeT w5 w1.heap.size G b v [⟨1, dv, U⟩]) := hT5
            have HX5 : Hid (Blk w5 LX 43 #[.int .i64 1, .int .i64 dv, .int .i64 U]) := kX5
            have HB5 : Hid (Below w.heap.size w w5) := hB5
            clear hT5 kX5 hB5
            go_wp2_with fail
            refine HOF.mono ?_
            rintro e w6 ⟨rfl, hb6⟩
            have hbn := low_new hb6 (.cells #[.int .i64 1, .int .i64 dv, .int .i64 U] 43)
            have q0 := (HX5.out.below hbn HX5.out.lt).cell (j := 0) rfl
            have q1 := (HX5.out.below hbn HX5.out.lt).cell (j := 1) rfl
            have q2 := (HX5.out.below hbn HX5.out.lt).cell (j := 2) rfl
            have HBN : Hid (Below w5.heap.size w5 (w6.alloc (.cells #[.int .i64 1, .int .i64 dv, .int .i64 U] 43))) := hbn
            clear hbn hb6 HOF
            go_wp2
            go_roundw
            case rel => exact ⟨k + 1, U, by go_num, hlt, h60, HMU.out, HT5.out.after HBN.out (Nat.le_refl _), HX5.out.below HBN.out HX5.out.lt, HB5.out.trans (HBN.out.mono HB5.out.size)⟩
            case measure => simp [Go.RowKit.intOf]; omega
          · refine op_value 15 10 _ (.pointer (some ⟨wr.drew.heap.size, 0, none⟩)) (wr.drew.alloc (.cells #[.int .i64 0, .int .i64 0, .int .i64 0] 43)) rfl rfl rfl (exec_allocE rfl) ⟨(HSV.out _ (low_new HBW.out.drew _)), ?_⟩
            simp only [Act.put, List.setIfInBounds_toArray, List.set_cons_succ, List.set_cons_zero]
            refine held_all1 11 (by kernel_rfl) (op_call 11 56 _ 17 #[.pointer (some ⟨G, 0, none⟩), .int .i64 1, .int .i64 a, .int .i64 c] rfl rfl rfl (exec_four8 17 _ _ _ _ _ rfl _ _ _ _ rfl rfl rfl rfl Try.call17) (HRA.out.mono ?_))
            rintro e w3 ⟨rfl, hT3, hX3, hB3, hY3, hn1, hn2⟩
            refine ⟨_, rfl, HSV.out w3 hB3, ?_⟩
            simp only [Act.put, List.setIfInBounds_toArray, List.set_cons_succ, List.set_cons_zero]
            refine held_take 12 44 _ (.tuple #[.agg #[.int .i64 0, .int .i64 0, .int .i64 0], .int .i64 1]) rfl rfl (by kernel_rfl) (by kernel_rfl) (by kernel_rfl) rfl (HSV.out w3 hB3) (fun _ _ => rfl) ?_
            simp only [Act.put, List.setIfInBounds_toArray, List.set_cons_succ, List.set_cons_zero]
            refine held_take 13 57 _ (.agg #[.int .i64 0, .int .i64 0, .int .i64 0]) rfl rfl (by kernel_rfl) (by kernel_rfl) (by kernel_rfl) rfl (HSV.out w3 hB3) (fun _ _ => rfl) ?_
            simp only [Act.put, List.setIfInBounds_toArray, List.set_cons_succ, List.set_cons_zero]
            refine held_take 14 58 _ (.int .i64 1) rfl rfl (by kernel_rfl) (by kernel_rfl) (by kernel_rfl) rfl (HSV.out w3 hB3) (fun _ _ => rfl) ?_
            simp only [Act.put, List.setIfInBounds_toArray, List.set_cons_succ, List.set_cons_zero]
            refine held_all1 16 (by kernel_rfl) (op_row 16 _ rfl rfl rfl 43 _ _ rfl (wr.drew.heap.size) #[.int .i64 0, .int .i64 0, .int .i64 0] rfl rfl 43 _ hY3 info_le rfl (by simp [Value.oneCell']) ?_)
            intro W4 hY4 hg4 _
            have hT4 := hT3.store hg4 hn2
            have hX4 := hX3.chg (S := fun q => q = wr.drew.heap.size) (Chg.of_grown hg4 (fun q e => (Option.some.inj e).symm)) hn1
            have hB4 : Below w.heap.size w W4 := below_grown hB3 hg4 hB3.size (fun q hq => by cases hq; exact HBW.out.size)
            refine ⟨HSV.out W4 hB4, ?_⟩
            refine held_take 17 11 _ (.int .i64 1) rfl rfl (by kernel_rfl) (by kernel_rfl) (by kernel_rfl) rfl (HSV.out W4 hB4) (fun _ _ => rfl) ?_
            simp only [Act.put, List.setIfInBounds_toArray, List.set_cons_succ, List.set_cons_zero]
            refine wpAnyH_done (by kernel_rfl) ?_ _
            refine NoPanic.normal ?_
            clear hT3 hX3 hB3 hg4 hY3 hn1 hn2
            have a4 := HCA.out W4 hB4
            have c4 := HCC.out W4 hB4
            have x0 : W4.cell? ⟨LX, 0, none⟩ = some (.int .i64 1) := hX4.cell (j := 0) rfl
            have x1 : W4.cell? ⟨LX, 1, none⟩ = some (.int .i64 dv) := hX4.cell (j := 1) rfl
            have x2 : W4.cell? ⟨LX, 2, none⟩ = some (.int .i64 U) := hX4.cell (j := 2) rfl
            have HX4 : Hid (Blk W4 LX 43 #[.int .i64 1, .int .i64 dv, .int .i64 U]) := hX4
            have HT4 : Hid (LeT W4 w1.heap.size G b v [⟨1, dv, U⟩]) := hT4
            have HB4 : Hid (Below w.heap.size w W4) := hB4
            have y0 : W4.cell? ⟨wr.heap.size, 0, none⟩ = some (.int .i64 0) := hY4.cell (j := 0) rfl
            have y1 : W4.cell? ⟨wr.heap.size, 1, none⟩ = some (.int .i64 0) := hY4.cell (j := 1) rfl
            have y2 : W4.cell? ⟨wr.heap.size, 2, none⟩ = some (.int .i64 0) := hY4.cell (j := 2) rfl
            clear hX4 hT4 hB4 hY4
            go_wp2_with fail
            go_quiet (fail)
            
            go_wp2_with fail
            go_quiet (fail)
            generalize hW5 : World.drewN _ _ = w5
            have hT5 : LeT w5 w1.heap.size G b v [⟨1, dv, U⟩] := by rw [← hW5]; exact HT4.out.after (Below.drewN (Below.drewN (Below.refl _ _) _) _) (Nat.le_refl _)
            have kX5 : Blk w5 LX 43 #[.int .i64 1, .int .i64 dv, .int .i64 U] := by rw [← hW5]; exact Blk.drewN (Blk.drewN HX4.out _) _
            have hB5 : Below w.heap.size w w5 := by rw [← hW5]; exact Below.drewN (Below.drewN HB4.out _) _
            
            have HOF := of16_any hT5 dv HDV.out.1 HDV.out.2
            rw [ren_of dv U HMU.out] at HOF
            unfold leV leL at HOF
            dsimp only at HOF
            have HT5 : Hid (LeT w5 w1.heap.size G b v [⟨1, dv, U⟩]) := hT5
            have HX5 : Hid (Blk w5 LX 43 #[.int .i64 1, .int .i64 dv, .int .i64 U]) := kX5
            have HB5 : Hid (Below w.heap.size w w5) := hB5
            clear hT5 kX5 hB5
            go_wp2_with fail
            refine HOF.mono ?_
            rintro e w6 ⟨rfl, hb6⟩
            have hbn := low_new hb6 (.cells #[.int .i64 1, .int .i64 dv, .int .i64 U] 43)
            have q0 := (HX5.out.below hbn HX5.out.lt).cell (j := 0) rfl
            have q1 := (HX5.out.below hbn HX5.out.lt).cell (j := 1) rfl
            have q2 := (HX5.out.below hbn HX5.out.lt).cell (j := 2) rfl
            have HBN : Hid (Below w5.heap.size w5 (w6.alloc (.cells #[.int .i64 1, .int .i64 dv, .int .i64 U] 43))) := hbn
            clear hbn hb6 HOF
            go_wp2
            go_roundw
            case rel => exact ⟨k + 1, U, by go_num, hlt, h60, HMU.out, HT5.out.after HBN.out (Nat.le_refl _), HX5.out.below HBN.out HX5.out.lt, HB5.out.trans (HBN.out.mono HB5.out.size)⟩
            case measure => simp [Go.RowKit.intOf]; omega
      · have hni : ¬ (k : Int) < 60 := by omega
        clear h60
        go_wp2
        go_ret
        exact ⟨rfl, hB⟩
    · have hni : ¬ (k : Int) < (ps.length : Int) := by omega
      clear hlt
      go_wp2
      go_ret
      exact ⟨rfl, hB⟩
end Go.Proofs.Ythlohlomefiebaa
