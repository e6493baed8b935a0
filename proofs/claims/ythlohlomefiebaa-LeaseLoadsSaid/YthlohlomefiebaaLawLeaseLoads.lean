/-
  What is proved here: the statement LeaseLoads is true of any leases and steps.
  Conditions: they lie in memory.
-/
import Derived.Test.YthlohlomefiebaaLeStep
import Derived.Test.YthlohlomefiebaaRefLeLoad
import Derived.BigQuiet
import Derived.Deep.QuietTactic
namespace Go.Proofs.Ythlohlomefiebaa
open Go.RowKit Go.Maps

theorem exec_nilE {a : Act} {o : Oper} {w : World} (t : TypeId) (x : Operand) (ho : o.op = .binOp .eql t x (.const (.pointer none)) t) (g i : Nat) (hx : a.eval x = .pointer (some ⟨g, i, none⟩)) (ht : t = 24) : (execOp a.eval o).run Try.prog w = .ok (.value (.bool false)) w := by
  subst ht
  have hy : a.eval (.const (.pointer none)) = .pointer none := rfl
  unfold execOp
  simp [ho, hx, hy]
  rfl
theorem RfT.mono {w : World} {lo lo' G : Nat} {v : Value} {l : List LE} (h : RfT w lo G v l) (hl : lo' ≤ lo) : RfT w lo' G v l := ⟨h.head, h.row.mono hl, h.ok, Nat.le_trans hl h.gG, h.nG⟩
set_option maxRecDepth 100000 in
set_option maxHeartbeats 4000000 in
theorem leaseLoads_any (x y : Value) (M : List LE) (L : List SP) (w : World) (hm : LeIn w x M) (hx : Steps16 w y L) : Calls Try.prog 4 #[x, y] w fun e w' => e = .returned (.bool true) ∧ Below w.heap.size w w' := by
  have HR : Hid (0 < L.length → ∃ b off c, y = .slice (some ⟨b, off, none⟩) L.length c ∧ b < w.heap.size ∧ ∀ (i : Nat) s, L[i]? = some s → ∀ (j : Nat) u, (spL s)[j]? = some u → w.cell? ⟨b, off + i * 4 + j, none⟩ = some u) := fun h => by
    obtain ⟨b, off, c, h1, _, h2, h3⟩ := hx.1.form h
    exact ⟨b, off, c, h1, h2, h3⟩
  have HW : Hid (∀ s ∈ L, s.good) := hx.2
  have HMI : Hid (LeIn w x M) := hm
  obtain ⟨ay, cx, rfl⟩ := hx.1.shape
  obtain ⟨am, cm, rfl⟩ := hm.shape
  clear hx hm
  by_cases h5 : 500 < M.length
  · have d5 : decide ((500 : Int) < (M.length : Int)) = true := decide_eq_true (by omega)
    clear h5
    go_enter Try.func4, Try.ntmps4
    go_wp2_with fail
    refine (awake16_any w).mono ?_
    rintro e w1 ⟨rfl, hB1⟩
    go_wp2
    go_ret
    exact ⟨rfl, hB1⟩
  have d5 : decide ((500 : Int) < (M.length : Int)) = false := decide_eq_false (by omega)
  clear h5
  go_enter Try.func4, Try.ntmps4
  go_wp2_with fail
  refine (awake16_any w).mono ?_
  rintro e w1 ⟨rfl, hB1⟩
  go_wp2_with fail
  refine (load16_any (HMI.out.after hB1 (Nat.le_refl _))).mono ?_
  rintro e w2 ⟨hL2, hb2⟩
  have hB2 : Below w.heap.size w w2 := hB1.trans (hb2.mono hB1.size)
  rcases hL2 with ⟨hc, G, b, v, rfl, hT⟩ | ⟨hc, rfl⟩
  · have HRL : Hid (Calls Try.prog 15 #[.slice am M.length cm] w2 fun e w' => ∃ G' v', e = .returned (.tuple #[.pointer (some ⟨G', 0, none⟩), .int .i64 0]) ∧ RfT w' w2.heap.size G' v' M ∧ Below w2.heap.size w2 w') := (rload16_any (HMI.out.after hB2 (Nat.le_refl _))).mono (fun e w' ⟨h1, h2⟩ => by
      rcases h1 with ⟨_, G', v', h3, h4⟩ | ⟨h3, _⟩
      · exact ⟨G', v', h3, h4, h2⟩
      · rw [hc] at h3; cases h3)
    have HT2 : Hid (LeT w2 w1.heap.size G b v M) := hT
    have HS : Hid (w.heap.size ≤ w1.heap.size) := hB1.size
    have HS12 : Hid (w1.heap.size ≤ w2.heap.size) := hb2.size
    have HB2 : Hid (Below w.heap.size w w2) := hB2
    clear hc hT hb2 hB1 hB2
    go_wp2_with fail
    refine HRL.out.mono ?_
    rintro e w3 ⟨G', v2, rfl, hR3, hb3⟩
    have HTT : Hid (TT w3 w1.heap.size G b G' v v2 M M) := by
      refine ⟨HT2.out.after hb3 (Nat.le_refl _), hR3.mono HS12.out, fun q hq hr => ?_, Nat.le_trans HS12.out hb3.size⟩
      have h1 := HT2.out.lt q hq
      have h2 := hR3.ge q hr
      omega
    have hB3 : Below w.heap.size w w3 := HB2.out.trans (hb3.mono HB2.out.size)
    clear hR3 hb3 HT2 HB2 HRL
    obtain ⟨LO, hLO⟩ : ∃ n, n = w1.heap.size := ⟨_, rfl⟩
    rw [← hLO] at HTT HS
    clear hLO HS12
    go_wp2_with fail
    go_loopw [10] (fun i wr => ∃ (k : Nat) (v v2 : Value) (l : List LE), i = .int .i64 (k : Int) ∧ k ≤ L.length ∧ k ≤ 60 ∧ Below w.heap.size w wr ∧ Hid (TT wr LO G b G' v v2 l l)) (fun i _ => 60 - (Go.RowKit.intOf i).toNat)
    case atStart => exact ⟨0, _, _, M, rfl, Nat.zero_le _, Nat.zero_le _, hB3, HTT.out⟩
    case round =>
      clear hB3 HTT
      obtain ⟨k, v, v2, l, rfl, hk, hk60, hB, HT⟩ := hrel
      by_cases hlt : k < L.length
      · by_cases h60 : k < 60
        · obtain ⟨bd, off, c', hxx, hbd, hr⟩ := HR.out (by omega)
          cases hxx
          have hgd := HW.out L[k] (List.getElem_mem hlt)
          have hcs := hr k _ (List.getElem?_eq_getElem hlt)
          generalize L[k] = s at *
          have HST : Hid (Calls Try.prog 11 #[.pointer (some ⟨G, 0, none⟩), .pointer (some ⟨G', 0, none⟩), spV s] wr fun e w' => PostS wr LO G b G' v v2 l l (doT l s) (doT l s) e w') := step16_any HT.out s hgd
          have HTL : Hid (∀ q, LeM G b v q ∨ RfM G' v2 q → w.heap.size ≤ q) := fun q hq => by
            have := HS.out
            rcases hq with e | e
            · have := HT.out.t.ge q e; omega
            · have := HT.out.r.ge q e; omega
          obtain ⟨so, sn, st, sf⟩ := s
          unfold spV spL at HST
          dsimp only at HST
          have k0 : wr.cell? ⟨bd, off + k * 4, none⟩ = some (.int .i64 so) := (hB.cell (p := ⟨bd, off + k * 4, none⟩) hbd).trans (hcs 0 _ rfl)
          have k1 : wr.cell? ⟨bd, off + k * 4 + 1, none⟩ = some (.int .i64 sn) := (hB.cell (p := ⟨bd, off + k * 4 + 1, none⟩) hbd).trans (hcs 1 _ rfl)
          have k2 : wr.cell? ⟨bd, off + k * 4 + 2, none⟩ = some (.int .i64 st) := (hB.cell (p := ⟨bd, off + k * 4 + 2, none⟩) hbd).trans (hcs 2 _ rfl)
          have k3 : wr.cell? ⟨bd, off + k * 4 + 3, none⟩ = some (.int .i64 sf) := (hB.cell (p := ⟨bd, off + k * 4 + 3, none⟩) hbd).trans (hcs 3 _ rfl)
          have ix := fun w => index_s16 bd off L.length cx k w hlt
          have HB : Hid (Below w.heap.size w wr) := hB
          clear hr hgd hcs hB
          go_wp2_with fail
          refine HST.out.mono ?_
          rintro e w4 ⟨bb, rfl, hbb, v3, v4, hT4, _, _, hC4⟩
          obtain rfl : bb = true := hbb rfl
          have HF : Hid (TT w4 LO G b G' v3 v4 (doT l ⟨so, sn, st, sf⟩) (doT l ⟨so, sn, st, sf⟩) ∧ Below w.heap.size w w4) := ⟨hT4, HB.out.trans (hC4.below HTL.out HB.out.size)⟩
          clear hT4 hC4 HST k0 k1 k2 k3
          go_wp2
          go_roundw
          case rel => exact ⟨k + 1, v3, v4, _, by go_num, hlt, h60, HF.out.2, HF.out.1⟩
          case measure => simp [Go.RowKit.intOf]; omega
        · have hni : ¬ (k : Int) < 60 := by omega
          clear h60
          have HAL : Hid (Calls Try.prog 13 #[.pointer (some ⟨G, 0, none⟩)] wr.drew fun e w' => ∃ u, e = .returned u ∧ LeR w' wr.drew.heap.size u l ∧ Below wr.drew.heap.size wr.drew w') := all16_any (HT.out.t.after ((Below.refl _ _).drew) (Nat.le_refl _))
          obtain ⟨ar, cr, er⟩ := HT.out.r.row.shape
          subst er
          have hS0 : (fun V : World => V.cell? ⟨G', 0, none⟩ = some (.slice ar l.length cr)) wr.drew := HT.out.r.head.cell (j := 0) rfl
          have HGL : Hid (G' < wr.drew.heap.size) := HT.out.r.head.lt
          have HRL : Hid (LeIn wr.drew (.slice ar l.length cr) l) := HT.out.r.row.lies
          have hB7 := hB.drew
          clear HT hB
          go_wp2_with fail
          refine held_begin (fun V => V.cell? ⟨G', 0, none⟩ = some (.slice ar l.length cr)) (by kernel_rfl) ?_
          refine held_take 0 64 _ (.pointer (some ⟨G, 0, none⟩)) rfl rfl (by kernel_rfl) (by kernel_rfl) (by kernel_rfl) rfl hS0 (fun _ _ => rfl) ?_
          simp only [Act.put, List.setIfInBounds_toArray, List.set_cons_succ, List.set_cons_zero]
          refine held_take 1 65 _ (.bool false) rfl rfl (by kernel_rfl) (by kernel_rfl) (by kernel_rfl) rfl hS0 (fun V _ => exec_nilE _ _ rfl G 0 rfl rfl) ?_
          simp only [Act.put, List.setIfInBounds_toArray, List.set_cons_succ, List.set_cons_zero]
          refine held_take 2 66 _ (.bool false) rfl rfl (by kernel_rfl) (by kernel_rfl) (by kernel_rfl) rfl hS0 (fun _ _ => rfl) ?_
          simp only [Act.put, List.setIfInBounds_toArray, List.set_cons_succ, List.set_cons_zero]
          refine held_take 3 67 _ (.pointer (some ⟨G, 0, none⟩)) rfl rfl (by kernel_rfl) (by kernel_rfl) (by kernel_rfl) rfl hS0 (fun _ _ => rfl) ?_
          simp only [Act.put, List.setIfInBounds_toArray, List.set_cons_succ, List.set_cons_zero]
          refine held_take 5 69 _ (.pointer (some ⟨G', 0, none⟩)) rfl rfl (by kernel_rfl) (by kernel_rfl) (by kernel_rfl) rfl hS0 (fun _ _ => rfl) ?_
          simp only [Act.put, List.setIfInBounds_toArray, List.set_cons_succ, List.set_cons_zero]
          refine held_take 6 70 _ (.pointer (some ⟨G', 0, none⟩)) rfl rfl (by kernel_rfl) (by kernel_rfl) (by kernel_rfl) rfl hS0 (fun _ _ => rfl) ?_
          simp only [Act.put, List.setIfInBounds_toArray, List.set_cons_succ, List.set_cons_zero]
          refine held_take 7 71 _ (.pointer (some ⟨G', 0, none⟩)) rfl rfl (by kernel_rfl) (by kernel_rfl) (by kernel_rfl) rfl hS0 (fun _ _ => rfl) ?_
          simp only [Act.put, List.setIfInBounds_toArray, List.set_cons_succ, List.set_cons_zero]
          refine held_take 8 72 _ (.slice ar l.length cr) rfl rfl (by kernel_rfl) (by kernel_rfl) (by kernel_rfl) rfl hS0 (fun V hV => exec_loadc 27 _ rfl _ _ rfl (load_one 27 (fun _ => by kernel_rfl) V _ _ _ hV)) ?_
          simp only [Act.put, List.setIfInBounds_toArray, List.set_cons_succ, List.set_cons_zero]
          refine held_all1 4 (by kernel_rfl) (op_call 4 68 _ 13 #[.pointer (some ⟨G, 0, none⟩)] rfl rfl rfl (exec_one 13 _ _ rfl _ rfl Try.call13) (HAL.out.mono ?_))
          rintro e W8 ⟨u, rfl, hu, hb8⟩
          obtain ⟨au, cu, rfl⟩ := hu.shape
          have hS8 : W8.cell? ⟨G', 0, none⟩ = some (.slice ar l.length cr) := (hb8.cell (p := ⟨G', 0, none⟩) HGL.out).trans hS0
          have HS9 : Hid (Calls Try.prog 12 #[.slice au l.length cu, .slice ar l.length cr] W8 fun e w' => e = .returned (.bool true) ∧ Below W8.heap.size W8 w') := by
            have := same16_any hu.lies (HRL.out.after hb8 (Nat.le_refl _))
            rw [decide_eq_true rfl] at this
            exact this
          have hB8 := hB7.trans (hb8.mono hB7.size)
          refine ⟨_, rfl, hS8, ?_⟩
          simp only [Act.put, List.setIfInBounds_toArray, List.set_cons_succ, List.set_cons_zero]
          refine held_all1 9 (by kernel_rfl) (op_call 9 73 _ 12 #[.slice au l.length cu, .slice ar l.length cr] rfl rfl rfl (exec_two8 12 _ _ _ rfl _ _ rfl rfl Try.call12) (HS9.out.mono ?_))
          rintro e W9 ⟨rfl, hb9⟩
          have hS9 : W9.cell? ⟨G', 0, none⟩ = some (.slice ar l.length cr) := (hb9.cell (p := ⟨G', 0, none⟩) (Nat.lt_of_lt_of_le HGL.out hb8.size)).trans hS8
          have hB9 := hB8.trans (hb9.mono hB8.size)
          refine ⟨_, rfl, hS9, ?_⟩
          simp only [Act.put, List.setIfInBounds_toArray, List.set_cons_succ, List.set_cons_zero]
          refine held_take 10 74 _ (.bool true) rfl rfl (by kernel_rfl) (by kernel_rfl) (by kernel_rfl) rfl hS9 (fun _ _ => rfl) ?_
          simp only [Act.put, List.setIfInBounds_toArray, List.set_cons_succ, List.set_cons_zero]
          refine held_take 11 4 _ (.bool true) rfl rfl (by kernel_rfl) (by kernel_rfl) (by kernel_rfl) rfl hS9 (fun _ _ => rfl) ?_
          simp only [Act.put, List.setIfInBounds_toArray, List.set_cons_succ, List.set_cons_zero]
          refine wpAnyH_done (by kernel_rfl) ?_ _
          refine NoPanic.normal ?_
          go_wp2
          go_ret
          exact ⟨rfl, hB9⟩
      · have hni : ¬ (k : Int) < (L.length : Int) := by omega
        clear hlt
        have HAL : Hid (Calls Try.prog 13 #[.pointer (some ⟨G, 0, none⟩)] wr.drew fun e w' => ∃ u, e = .returned u ∧ LeR w' wr.drew.heap.size u l ∧ Below wr.drew.heap.size wr.drew w') := all16_any (HT.out.t.after ((Below.refl _ _).drew) (Nat.le_refl _))
        obtain ⟨ar, cr, er⟩ := HT.out.r.row.shape
        subst er
        have hS0 : (fun V : World => V.cell? ⟨G', 0, none⟩ = some (.slice ar l.length cr)) wr.drew := HT.out.r.head.cell (j := 0) rfl
        have HGL : Hid (G' < wr.drew.heap.size) := HT.out.r.head.lt
        have HRL : Hid (LeIn wr.drew (.slice ar l.length cr) l) := HT.out.r.row.lies
        have hB7 := hB.drew
        clear HT hB
        go_wp2_with fail
        refine held_begin (fun V => V.cell? ⟨G', 0, none⟩ = some (.slice ar l.length cr)) (by kernel_rfl) ?_
        refine held_take 0 64 _ (.pointer (some ⟨G, 0, none⟩)) rfl rfl (by kernel_rfl) (by kernel_rfl) (by kernel_rfl) rfl hS0 (fun _ _ => rfl) ?_
        simp only [Act.put, List.setIfInBounds_toArray, List.set_cons_succ, List.set_cons_zero]
        refine held_take 1 65 _ (.bool false) rfl rfl (by kernel_rfl) (by kernel_rfl) (by kernel_rfl) rfl hS0 (fun V _ => exec_nilE _ _ rfl G 0 rfl rfl) ?_
        simp only [Act.put, List.setIfInBounds_toArray, List.set_cons_succ, List.set_cons_zero]
        refine held_take 2 66 _ (.bool false) rfl rfl (by kernel_rfl) (by kernel_rfl) (by kernel_rfl) rfl hS0 (fun _ _ => rfl) ?_
        simp only [Act.put, List.setIfInBounds_toArray, List.set_cons_succ, List.set_cons_zero]
        refine held_take 3 67 _ (.pointer (some ⟨G, 0, none⟩)) rfl rfl (by kernel_rfl) (by kernel_rfl) (by kernel_rfl) rfl hS0 (fun _ _ => rfl) ?_
        simp only [Act.put, List.setIfInBounds_toArray, List.set_cons_succ, List.set_cons_zero]
        refine held_take 5 69 _ (.pointer (some ⟨G', 0, none⟩)) rfl rfl (by kernel_rfl) (by kernel_rfl) (by kernel_rfl) rfl hS0 (fun _ _ => rfl) ?_
        simp only [Act.put, List.setIfInBounds_toArray, List.set_cons_succ, List.set_cons_zero]
        refine held_take 6 70 _ (.pointer (some ⟨G', 0, none⟩)) rfl rfl (by kernel_rfl) (by kernel_rfl) (by kernel_rfl) rfl hS0 (fun _ _ => rfl) ?_
        simp only [Act.put, List.setIfInBounds_toArray, List.set_cons_succ, List.set_cons_zero]
        refine held_take 7 71 _ (.pointer (some ⟨G', 0, none⟩)) rfl rfl (by kernel_rfl) (by kernel_rfl) (by kernel_rfl) rfl hS0 (fun _ _ => rfl) ?_
        simp only [Act.put, List.setIfInBounds_toArray, List.set_cons_succ, List.set_cons_zero]
        refine held_take 8 72 _ (.slice ar l.length cr) rfl rfl (by kernel_rfl) (by kernel_rfl) (by kernel_rfl) rfl hS0 (fun V hV => exec_loadc 27 _ rfl _ _ rfl (load_one 27 (fun _ => by kernel_rfl) V _ _ _ hV)) ?_
        simp only [Act.put, List.setIfInBounds_toArray, List.set_cons_succ, List.set_cons_zero]
        refine held_all1 4 (by kernel_rfl) (op_call 4 68 _ 13 #[.pointer (some ⟨G, 0, none⟩)] rfl rfl rfl (exec_one 13 _ _ rfl _ rfl Try.call13) (HAL.out.mono ?_))
        rintro e W8 ⟨u, rfl, hu, hb8⟩
        obtain ⟨au, cu, rfl⟩ := hu.shape
        have hS8 : W8.cell? ⟨G', 0, none⟩ = some (.slice ar l.length cr) := (hb8.cell (p := ⟨G', 0, none⟩) HGL.out).trans hS0
        have HS9 : Hid (Calls Try.prog 12 #[.slice au l.length cu, .slice ar l.length cr] W8 fun e w' => e = .returned (.bool true) ∧ Below W8.heap.size W8 w') := by
          have := same16_any hu.lies (HRL.out.after hb8 (Nat.le_refl _))
          rw [decide_eq_true rfl] at this
          exact this
        have hB8 := hB7.trans (hb8.mono hB7.size)
        refine ⟨_, rfl, hS8, ?_⟩
        simp only [Act.put, List.setIfInBounds_toArray, List.set_cons_succ, List.set_cons_zero]
        refine held_all1 9 (by kernel_rfl) (op_call 9 73 _ 12 #[.slice au l.length cu, .slice ar l.length cr] rfl rfl rfl (exec_two8 12 _ _ _ rfl _ _ rfl rfl Try.call12) (HS9.out.mono ?_))
        rintro e W9 ⟨rfl, hb9⟩
        have hS9 : W9.cell? ⟨G', 0, none⟩ = some (.slice ar l.length cr) := (hb9.cell (p := ⟨G', 0, none⟩) (Nat.lt_of_lt_of_le HGL.out hb8.size)).trans hS8
        have hB9 := hB8.trans (hb9.mono hB8.size)
        refine ⟨_, rfl, hS9, ?_⟩
        simp only [Act.put, List.setIfInBounds_toArray, List.set_cons_succ, List.set_cons_zero]
        refine held_take 10 74 _ (.bool true) rfl rfl (by kernel_rfl) (by kernel_rfl) (by kernel_rfl) rfl hS9 (fun _ _ => rfl) ?_
        simp only [Act.put, List.setIfInBounds_toArray, List.set_cons_succ, List.set_cons_zero]
        refine held_take 11 4 _ (.bool true) rfl rfl (by kernel_rfl) (by kernel_rfl) (by kernel_rfl) rfl hS9 (fun _ _ => rfl) ?_
        simp only [Act.put, List.setIfInBounds_toArray, List.set_cons_succ, List.set_cons_zero]
        refine wpAnyH_done (by kernel_rfl) ?_ _
        refine NoPanic.normal ?_
        go_wp2
        go_ret
        exact ⟨rfl, hB9⟩
  · have HRL : Hid (Calls Try.prog 15 #[.slice am M.length cm] w2 fun e w' => e = .returned (.tuple #[.pointer none, .int .i64 1]) ∧ Below w2.heap.size w2 w') := (rload16_any (HMI.out.after hB2 (Nat.le_refl _))).mono (fun e w' ⟨h1, h2⟩ => by
      rcases h1 with ⟨h3, _⟩ | ⟨_, h3⟩
      · rw [hc] at h3; cases h3
      · exact ⟨h3, h2⟩)
    have HB2 : Hid (Below w.heap.size w w2) := hB2
    clear hc hb2 hB1 hB2
    go_wp2_with fail
    refine HRL.out.mono ?_
    rintro e w3 ⟨rfl, hb3⟩
    have hB3 : Below w.heap.size w w3 := HB2.out.trans (hb3.mono HB2.out.size)
    clear hb3 HB2 HRL
    go_wp2_with fail
    go_loopw [10] (fun i wr => i = .int .i64 0 ∧ wr = w3) (fun _ _ => 0)
    case atStart => exact ⟨rfl, rfl⟩
    case round =>
      obtain ⟨rfl, rfl⟩ := hrel
      by_cases hlt : 0 < L.length
      · have hli : (0 : Int) < (L.length : Int) := by omega
        clear hlt
        go_wp2_with fail
        go_quiet (fail)
        go_wp2
        go_ret
        exact ⟨rfl, Below.drewN hB3 _⟩
      · have hli : ¬ (0 : Int) < (L.length : Int) := by omega
        clear hlt
        go_wp2_with fail
        go_quiet (fail)
        go_wp2
        go_ret
        exact ⟨rfl, Below.drewN hB3 _⟩
end Go.Proofs.Ythlohlomefiebaa
