/-
  What is proved here: the document's log: Commit.
  Conditions: the disk and the log lie in memory.
-/
import Derived.Test.YtojgeahablphbaaGreatJRefWalWrite
import Derived.StillTailTactics
namespace Go.Proofs.YtojgeahablphbaaGreat
open Go.RowKit

theorem exec_four7 {a : Act} {o : Oper} {w : World} (f : FuncId) (x y z p : Operand) (ts : Array TypeId) (ho : o.op = .call { callee := .value (.func f), args := #[x, y, z, p], argTypes := ts }) (u v t q : Value) (hx : a.eval x = u) (hy : a.eval y = v) (hz : a.eval z = t) (hp : a.eval p = q) (hc : ∀ args w, (callFunc f args).run Tryz.prog w = .ok (.enter f args) w) : (execOp a.eval o).run Tryz.prog w = .ok (.enter f #[u, v, t, q]) w := by
  have he : a.eval (.func f) = .func (.func f) #[] #[] := rfl
  unfold execOp
  simp [ho, resolve, invoke, Deferred.ofValue, he, hx, hy, hz, hp, hc]

set_option maxRecDepth 100000 in
set_option maxHeartbeats 4000000 in
theorem commit7_any (G : Nat) (L : RLay) (s : DS) (l : LS) (w : World) (hB : RBoth w G L s l) :
    Calls Tryz.prog 36 #[.pointer (some ⟨G, 0, none⟩)] w fun e w' => e = .returned (.int .i64 (commitW s l).1) ∧ RBoth w' G L (commitW s l).2.1 (commitW s l).2.2 ∧ Chg (bothG G L) w w' := by
  obtain ⟨bv, hh, hsg⟩ := hB.l.head
  obtain ⟨ax, cx, rfl⟩ := Seg.shapeD hsg.1
  have c1 := hh.cell (j := 1) rfl
  have c2 := hh.cell (j := 2) rfl
  have c3 := hh.cell (j := 3) rfl
  have c4 := hh.cell (j := 4) rfl
  have c5 := hh.cell (j := 5) rfl
  have c6 := hh.cell (j := 6) rfl
  obtain ⟨R, hR⟩ : ∃ R, R = commitW s l := ⟨_, rfl⟩
  rw [← hR]
  unfold commitW at hR
  cases hk : l.broke with
  | true =>
    rw [hk, if_pos rfl] at hR
    rw [hk] at c6
    have HR : Hid (R = (10, s, l)) := hR
    clear hR hk
    go_enter Tryz.func36, Tryz.ntmps36
    go_wp2
    go_ret
    rw [HR.out]
    exact ⟨rfl, hB, Chg.refl _ _⟩
  | false =>
    rw [hk, if_neg (by decide)] at hR
    rw [hk] at c6
    cases hg : l.begun with
    | false =>
      rw [hg, if_pos rfl] at hR
      rw [hg] at c5
      have HR : Hid (R = (9, s, l)) := hR
      clear hR hk hg
      go_enter Tryz.func36, Tryz.ntmps36
      go_wp2
      go_ret
      rw [HR.out]
      exact ⟨rfl, hB, Chg.refl _ _⟩
    | true =>
      rw [hg, if_neg (by decide)] at hR
      rw [hg] at c5
      have d1 : w.drew.cell? ⟨G, 1, none⟩ = some (.int .i64 (l.n : Int)) := c1
      have d2 : w.drew.cell? ⟨G, 2, none⟩ = some (.int .i64 (l.gen : Int)) := c2
      have d3 : w.drew.cell? ⟨G, 3, none⟩ = some (.slice ax l.b.length cx) := c3
      have d4 : w.drew.cell? ⟨G, 4, none⟩ = some (.int .i64 (l.sure : Int)) := c4
      have hBd := hB.after ((Below.refl w.heap.size w).drew)
      by_cases h4 : l.sure = l.b.length
      · rw [if_pos h4] at hR
        have HR : Hid (R = (0, s, l)) := hR
        have j4 : ((l.sure : Int) == (l.b.length : Int)) = true := by rw [h4]; simp
        clear hR hk hg h4
        go_enter Tryz.func36, Tryz.ntmps36
        go_wp2
        go_still (by kernel_rfl)
        go_wp2
        go_ret
        rw [HR.out]
        exact ⟨rfl, hBd, (Chg.refl _ _).drew⟩
      · rw [if_neg h4] at hR
        have j4 : ((l.sure : Int) == (l.b.length : Int)) = false := by rw [beq_eq_false_iff_ne]; omega
        by_cases h5 : 1073741824 ≤ l.n
        · rw [if_pos h5] at hR
          have HR : Hid (R = (3, s, l)) := hR
          have j5 : (1073741824 : Int) ≤ (l.n : Int) := by omega
          clear hR hk hg h4 h5
          go_enter Tryz.func36, Tryz.ntmps36
          go_wp2
          go_still (by kernel_rfl)
          go_wp2
          go_ret
          rw [HR.out]
          exact ⟨rfl, hBd, (Chg.refl _ _).drew⟩
        · rw [if_neg h5] at hR
          have j5 : ¬ (1073741824 : Int) ≤ (l.n : Int) := by omega
          have k5 : Hid (decide ((1073741824 : Int) ≤ (l.n : Int)) = false) := decide_eq_false j5
          have hgn := hB.l.gen
          have hsu := Nat.le_trans hB.l.sure hB.l.b
          have hbl := hB.l.b
          have HK : Hid (l.broke = false ∧ l.begun = true) := ⟨hk, hg⟩
          have HR0 : Hid (R = if (writeW s l.n l.gen l.sure l.b).1 ≠ 0 then ((writeW s l.n l.gen l.sure l.b).1, (writeW s l.n l.gen l.sure l.b).2, { l with broke := true }) else (0, (writeW s l.n l.gen l.sure l.b).2, { l with n := l.n + 1, sure := l.b.length })) := by show _ = _; rw [hk, hg]; exact hR
          have hseg : SegA w.drew (fun q => q = G ∨ L.T q) (.slice ax l.b.length cx) l.b := ⟨hsg.1, fun h0 q hq e => hsg.2 h0 q hq (e.imp_right .inl)⟩
          clear hR hk hg h4 j5 hsg hh
          go_enter Tryz.func36, Tryz.ntmps36
          go_wp2
          go_still (by kernel_rfl)
          change Exit.then _ _ _ _ w.drew
          have hC0 : Chg (bothG G L) w w.drew := (Chg.refl _ _).drew
          generalize w.drew = W at *
          clear c1 c2 c3 c4 c5 c6
          have hBe := hBd.after ((Below.refl W.heap.size W).drew)
          have HW : Hid (Calls Tryz.prog 65 #[.pointer (some ⟨G, 0, none⟩), .int .i64 (l.gen : Int), .int .i64 (l.sure : Int), .slice ax l.b.length cx] W.drew fun e w' => e = .returned (.int .i64 (writeW s l.n l.gen l.sure l.b).1) ∧ RBoth w' G L (writeW s l.n l.gen l.sure l.b).2 (if (writeW s l.n l.gen l.sure l.b).1 = 0 then { l with n := l.n + 1 } else l) ∧ Chg (bothG G L) W.drew w' ∧ ∀ j, j ≠ 1 → w'.cell? ⟨G, j, none⟩ = W.drew.cell? ⟨G, j, none⟩) := write7_any G L s l l.gen l.sure _ l.b W.drew hBe hseg.1 hseg.2 hgn hsu hbl (by omega)
          generalize writeW s l.n l.gen l.sure l.b = Y at *
          obtain ⟨E, s2⟩ := Y
          dsimp only at HR0 HW
          have k6 := k5.out
          clear h5 k5
          generalize (l.n : Int) = NN at *
          go_wp2_with fail
          have hS0 : W.drew.cell? ⟨G, 2, none⟩ = some (.int .i64 (l.gen : Int)) ∧ W.drew.cell? ⟨G, 3, none⟩ = some (.slice ax l.b.length cx) ∧ W.drew.cell? ⟨G, 4, none⟩ = some (.int .i64 (l.sure : Int)) := ⟨d2, d3, d4⟩
          refine held_begin (fun V => V.cell? ⟨G, 2, none⟩ = some (.int .i64 (l.gen : Int)) ∧ V.cell? ⟨G, 3, none⟩ = some (.slice ax l.b.length cx) ∧ V.cell? ⟨G, 4, none⟩ = some (.int .i64 (l.sure : Int))) (by kernel_rfl) ?_
          refine held_take 0 32 _ (.pointer (some ⟨G, 0, none⟩)) rfl rfl (by kernel_rfl) (by kernel_rfl) (by kernel_rfl) rfl hS0 (fun _ _ => rfl) ?_
          simp only [Act.put, List.setIfInBounds_toArray, List.set_cons_succ, List.set_cons_zero]
          refine held_take 1 33 _ (.pointer (some ⟨G, 0, none⟩)) rfl rfl (by kernel_rfl) (by kernel_rfl) (by kernel_rfl) rfl hS0 (fun _ _ => rfl) ?_
          simp only [Act.put, List.setIfInBounds_toArray, List.set_cons_succ, List.set_cons_zero]
          refine held_take 2 34 _ (.pointer (some ⟨G, 0, none⟩)) rfl rfl (by kernel_rfl) (by kernel_rfl) (by kernel_rfl) rfl hS0 (fun _ _ => rfl) ?_
          simp only [Act.put, List.setIfInBounds_toArray, List.set_cons_succ, List.set_cons_zero]
          refine held_take 3 35 _ (.pointer (some ⟨G, 2, none⟩)) rfl rfl (by kernel_rfl) (by kernel_rfl) (by kernel_rfl) rfl hS0 (fun _ _ => rfl) ?_
          simp only [Act.put, List.setIfInBounds_toArray, List.set_cons_succ, List.set_cons_zero]
          refine held_take 4 36 _ (.int .i64 (l.gen : Int)) rfl rfl (by kernel_rfl) (by kernel_rfl) (by kernel_rfl) rfl hS0 (fun V hV => exec_loadc 3 _ rfl _ _ rfl (load_one 3 (fun _ => by kernel_rfl) V _ _ _ hV.1)) ?_
          simp only [Act.put, List.setIfInBounds_toArray, List.set_cons_succ, List.set_cons_zero]
          refine held_take 5 37 _ (.pointer (some ⟨G, 0, none⟩)) rfl rfl (by kernel_rfl) (by kernel_rfl) (by kernel_rfl) rfl hS0 (fun _ _ => rfl) ?_
          simp only [Act.put, List.setIfInBounds_toArray, List.set_cons_succ, List.set_cons_zero]
          refine held_take 6 38 _ (.pointer (some ⟨G, 0, none⟩)) rfl rfl (by kernel_rfl) (by kernel_rfl) (by kernel_rfl) rfl hS0 (fun _ _ => rfl) ?_
          simp only [Act.put, List.setIfInBounds_toArray, List.set_cons_succ, List.set_cons_zero]
          refine held_take 7 39 _ (.pointer (some ⟨G, 4, none⟩)) rfl rfl (by kernel_rfl) (by kernel_rfl) (by kernel_rfl) rfl hS0 (fun _ _ => rfl) ?_
          simp only [Act.put, List.setIfInBounds_toArray, List.set_cons_succ, List.set_cons_zero]
          refine held_take 8 40 _ (.int .i64 (l.sure : Int)) rfl rfl (by kernel_rfl) (by kernel_rfl) (by kernel_rfl) rfl hS0 (fun V hV => exec_loadc 3 _ rfl _ _ rfl (load_one 3 (fun _ => by kernel_rfl) V _ _ _ hV.2.2)) ?_
          simp only [Act.put, List.setIfInBounds_toArray, List.set_cons_succ, List.set_cons_zero]
          refine held_take 9 41 _ (.pointer (some ⟨G, 0, none⟩)) rfl rfl (by kernel_rfl) (by kernel_rfl) (by kernel_rfl) rfl hS0 (fun _ _ => rfl) ?_
          simp only [Act.put, List.setIfInBounds_toArray, List.set_cons_succ, List.set_cons_zero]
          refine held_take 10 42 _ (.pointer (some ⟨G, 0, none⟩)) rfl rfl (by kernel_rfl) (by kernel_rfl) (by kernel_rfl) rfl hS0 (fun _ _ => rfl) ?_
          simp only [Act.put, List.setIfInBounds_toArray, List.set_cons_succ, List.set_cons_zero]
          refine held_take 11 43 _ (.pointer (some ⟨G, 3, none⟩)) rfl rfl (by kernel_rfl) (by kernel_rfl) (by kernel_rfl) rfl hS0 (fun _ _ => rfl) ?_
          simp only [Act.put, List.setIfInBounds_toArray, List.set_cons_succ, List.set_cons_zero]
          refine held_take 12 44 _ (.slice ax l.b.length cx) rfl rfl (by kernel_rfl) (by kernel_rfl) (by kernel_rfl) rfl hS0 (fun V hV => exec_loadc 33 _ rfl _ _ rfl (load_one 33 (fun _ => by kernel_rfl) V _ _ _ hV.2.1)) ?_
          simp only [Act.put, List.setIfInBounds_toArray, List.set_cons_succ, List.set_cons_zero]
          refine held_all1 13 (by kernel_rfl) (op_call 13 45 _ 65 #[.pointer (some ⟨G, 0, none⟩), .int .i64 (l.gen : Int), .int .i64 (l.sure : Int), .slice ax l.b.length cx] rfl rfl rfl (exec_four7 65 _ _ _ _ _ rfl _ _ _ _ rfl rfl rfl rfl Tryz.call65) (HW.out.mono ?_))
          rintro e W2 ⟨rfl, hB2, hc2, hq2⟩
          have hS2 : W2.cell? ⟨G, 2, none⟩ = some (.int .i64 (l.gen : Int)) ∧ W2.cell? ⟨G, 3, none⟩ = some (.slice ax l.b.length cx) ∧ W2.cell? ⟨G, 4, none⟩ = some (.int .i64 (l.sure : Int)) := ⟨by rw [hq2 2 (by decide)]; exact d2, by rw [hq2 3 (by decide)]; exact d3, by rw [hq2 4 (by decide)]; exact d4⟩
          refine ⟨_, rfl, hS2, ?_⟩
          simp only [Act.put, List.setIfInBounds_toArray, List.set_cons_succ, List.set_cons_zero]
          refine held_all1 14 (by kernel_rfl) (op_value 14 3 _ (.int .i64 E) W2 rfl rfl rfl rfl ⟨hS2, ?_⟩)
          simp only [Act.put, List.setIfInBounds_toArray, List.set_cons_succ, List.set_cons_zero]
          refine wpAnyH_done (by kernel_rfl) ?_ _
          refine NoPanic.normal ?_
          have hC2 : Chg (bothG G L) w W2 := hC0.drew.trans hc2 (fun _ _ h => h)
          obtain ⟨m3, m4⟩ := hS2.2
          clear hc2 hq2 HW hS0 hS2 hBe hBd d1 d2 d3 d4 hseg
          by_cases hE : E = 0
          · have b1 : (E != 0) = false := by rw [hE]; rfl
            rw [if_pos hE] at hB2
            have HR : Hid (R = (0, s2, { l with n := l.n + 1, sure := l.b.length })) := by show _ = _; rw [HR0.out, if_neg (fun h => h hE)]
            obtain ⟨bv, hx1, hs1⟩ := hB2.l.head
            have f4 := hx1.frozen 4
            have hx2 := hx1.set 4 (.int .i64 (l.b.length : Int))
            have hcN : Chg (fun q => q = G) W2 (W2.setCell ⟨G, 4, none⟩ (.int .i64 (l.b.length : Int))) := (Chg.refl (fun q => q = G) W2).setCell G 4 _ (fun _ => rfl)
            have HB : Hid (RBoth (W2.setCell ⟨G, 4, none⟩ (.int .i64 (l.b.length : Int))) G L s2 { l with n := l.n + 1, sure := l.b.length }) := ⟨hB2.d.chgG hB2.l hcN, ⟨⟨bv, hx2.of_eq rfl, hs1.chg (hcN.weaken (fun _ h => .inl h))⟩, hB2.l.off, hB2.l.n, hB2.l.gen, hB2.l.b, Nat.le_refl _⟩⟩
            have HCN : Hid (Chg (bothG G L) w (W2.setCell ⟨G, 4, none⟩ (.int .i64 (l.b.length : Int)))) := hC2.trans hcN (fun _ _ h => .inl h)
            clear hx1 hs1 hx2 hcN HR0 hE
            go_wp2_with fail
            go_ret
            rw [HR.out]
            exact ⟨rfl, HB.out, HCN.out⟩
          · have b1 : (E != 0) = true := by simp [hE]
            rw [if_neg hE] at hB2
            have HR : Hid (R = (E, s2, { l with broke := true })) := by show _ = _; rw [HR0.out, if_pos hE]
            have HBK : Hid (Calls Tryz.prog 66 #[.pointer (some ⟨G, 0, none⟩), .int .i64 E] W2 fun e w' => e = .returned (.int .i64 E) ∧ RBoth w' G L s2 { l with broke := true } ∧ Chg (fun q => q = G) W2 w') := broke7_any G L s2 l E W2 hB2 hE
            clear HR0 hE
            go_wp2_with fail
            refine HBK.out.mono ?_
            rintro e W3 ⟨rfl, hB3, hc3⟩
            go_wp2_with fail
            go_ret
            rw [HR.out]
            exact ⟨rfl, hB3, hC2.trans hc3 (fun _ _ h => .inl h)⟩
end Go.Proofs.YtojgeahablphbaaGreat
