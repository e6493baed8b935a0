/-
  What is proved here: the document's log: Checkpoint.
  Conditions: the disk and the log lie in memory.
-/
import Derived.Test.YtojgeahablphbaaGreatJRefWalSay
namespace Go.Proofs.YtojgeahablphbaaGreat
open Go.RowKit

set_option maxRecDepth 100000 in
set_option maxHeartbeats 4000000 in
theorem check7_any (G : Nat) (L : RLay) (s : DS) (l : LS) (x : Value) (st : List UInt8) (w : World) (hB : RBoth w G L s l) (hS : Seg w x st) (hm : st.length ≤ 1000000) (hx : 0 < st.length → ∀ q, x.ownBlock = some q → ¬ bothG G L q) :
    Calls Tryz.prog 37 #[.pointer (some ⟨G, 0, none⟩), x] w fun e w' => e = .returned (.int .i64 (checkW s l st).1) ∧ RBoth w' G L (checkW s l st).2.1 (checkW s l st).2.2 ∧ Chg (bothG G L) w w' := by
  obtain ⟨bv, hh, hsg⟩ := hB.l.head
  obtain ⟨ax, cx, rfl⟩ := Seg.shapeD hS
  have c1 := hh.cell (j := 1) rfl
  have c2 := hh.cell (j := 2) rfl
  have c6 := hh.cell (j := 6) rfl
  obtain ⟨R, hR⟩ : ∃ R, R = checkW s l st := ⟨_, rfl⟩
  rw [← hR]
  unfold checkW at hR
  cases hk : l.broke with
  | true =>
    rw [hk, if_pos rfl] at hR
    rw [hk] at c6
    have HR : Hid (R = (10, s, l)) := hR
    clear hR hk
    go_enter Tryz.func37, Tryz.ntmps37
    go_wp2
    go_ret
    rw [HR.out]
    exact ⟨rfl, hB, Chg.refl _ _⟩
  | false =>
    rw [hk] at c6
    have HK : Hid (l.broke = false) := hk
    have hgn := hB.l.gen
    obtain ⟨G1, hG1⟩ : ∃ G1, G1 = l.gen + 1 := ⟨_, rfl⟩
    obtain ⟨SB, hSB⟩ : ∃ SB, SB = stateB st := ⟨_, rfl⟩
    have HSB : Hid (SB = partsB st.length st) := hSB
    have hsl2 : SB.length ≤ 2000000 := by rw [hSB, stateB_len]; omega
    rw [if_neg (by rw [hk]; decide), ← hSB, ← hG1] at hR
    have HR : Hid (R = if sizeS s < SB.length ∨ 1048576 < G1 ∨ 1073741824 ≤ l.n then (3, s, l) else if (writeW s l.n G1 0 SB).1 ≠ 0 then ((writeW s l.n G1 0 SB).1, (writeW s l.n G1 0 SB).2, { l with broke := true }) else (0, (writeW s l.n G1 0 SB).2, { l with n := l.n + 1, gen := G1, b := SB, sure := SB.length, begun := true })) := hR
    have e1 : IntKind.i64.wrap ((l.gen : Int) + 1) = (G1 : Int) := by rw [IntKind.wrap_i64]; omega
    have hG1b : G1 ≤ 1048577 := by omega
    have HG1 : Hid (G1 = l.gen + 1) := hG1
    clear hR hk hh hsg hgn hG1 hSB
    go_enter Tryz.func37, Tryz.ntmps37
    go_wp2_with fail
    clear c1 c2 c6 e1
    go_loopw [6, 7] (fun a r wr => ∃ (n : Nat) (A B : List UInt8) (ab : Option Addr) (cb : Nat), Own wr w.heap.size a A ∧ r = .slice ab B.length cb ∧ Seg w (.slice ab B.length cb) B ∧ SB = A ++ partsB n B ∧ B.length ≤ n * 1024 + 1024 ∧ B.length ≤ 1000000 ∧ Below w.heap.size w wr) (fun _ r _ => lenOf7 r)
    case atStart => exact ⟨st.length, [], st, ax, cx, ⟨rfl, .inl ⟨rfl, rfl⟩⟩, rfl, hS, HSB.out, by omega, hm, Below.refl _ _⟩
    case round =>
      obtain ⟨n, A, B, ab, cb, hA, rfl, hBs, hst, hBn, hBm, hbw⟩ := hrel
      have hAl : A.length + (partsB n B).length ≤ 2000000 := by have h := hsl2; rw [hst, List.length_append] at h; exact h
      have HST : Hid (SB = A ++ partsB n B) := hst
      clear hst
      have hsr := hBs.below hbw (Nat.le_refl _)
      by_cases hlt : 1024 < B.length
      · obtain ⟨n', hn'⟩ : ∃ n', n = n' + 1 := ⟨n - 1, by omega⟩
        have hp : partsB n B = pieceB 1 (B.take 1024) ++ partsB n' (B.drop 1024) := by rw [hn']; show (if 1024 < B.length then _ else _) = _; rw [if_pos hlt]
        obtain ⟨t1, ht1⟩ := hsr.takesD 1024 (by omega)
        have t2 := hBs.dropsD 1024 (by omega)
        have htl : (B.take 1024).length = 1024 := by rw [List.length_take]; omega
        have hdl : B.length - 1024 = (B.drop 1024).length := by rw [List.length_drop]
        have hpl : (pieceB 1 (B.take 1024)).length = 1029 := by rw [pieceB_len, htl]
        have HPC : Hid (Calls Tryz.prog 63 #[.int .i64 1, .slice ab 1024 cb] wr fun e w' => ∃ v, e = .returned v ∧ Own w' wr.heap.size v (pieceB 1 (B.take 1024)) ∧ Below wr.heap.size wr w') := piece7_any 1 _ (B.take 1024) wr (by decide) t1 (by omega)
        have i1 : (1024 : Int) < (B.length : Int) := by omega
        have HST2 : Hid (SB = (A ++ pieceB 1 (B.take 1024)) ++ partsB n' (B.drop 1024)) := by show _ = _; rw [HST.out, hp, List.append_assoc]
        have hA2 : A.length + (pieceB 1 (B.take 1024)).length ≤ 1000000000 := by rw [hpl]; omega
        have hn2 : (B.drop 1024).length ≤ n' * 1024 + 1024 := by rw [List.length_drop]; omega
        have hm2 : (B.drop 1024).length ≤ 1000000 := by rw [List.length_drop]; omega
        have hme : (B.drop 1024).length < B.length := by rw [List.length_drop]; omega
        have HV : Hid (Value.slice (if cb = 1024 then ab else Option.map (fun x => x.add 1024) ab) (B.length - 1024) (cb - 1024) = .slice (restD ab cb 1024) (B.drop 1024).length (cb - 1024)) := by show _ = _; rw [← hdl]; rfl
        have T2 : Hid (Seg w (.slice (restD ab cb 1024) (B.drop 1024).length (cb - 1024)) (B.drop 1024)) := by rw [hdl] at t2; exact t2
        clear hp htl hpl hsr hdl t1 t2 hBs
        generalize B.drop 1024 = B2 at *
        generalize pieceB 1 (B.take 1024) = P1 at *
        generalize restD ab cb 1024 = rb at *
        go_wp2_with first | (go_at_call 63; refine HPC.out.mono ?_; rintro e w1 ⟨v25, rfl, ho1, hb1⟩) | (at_builtin; refine app_own w1 rfl (.tmp 22) (.tmp 25) rfl w.heap.size _ A rfl (by exact hA.below hb1 (Nat.le_refl _)) v25 P1 rfl ho1.seg hA2 (Nat.le_trans hbw.size hb1.size) ?_; intro v26 w2 ho2 hg2 hv2)
        go_roundw
        case rel => exact ⟨n', A ++ P1, B2, rb, cb - 1024, ho2, HV.out, T2.out, HST2.out, hn2, hm2, below_grown (hbw.trans (hb1.mono hbw.size)) hg2 (Nat.le_trans hbw.size hb1.size) (fun q hq => (hA.blocks q hq).1)⟩
        case measure => simp only [lenOf7]; omega
      · have i1 : ¬ (1024 : Int) < (B.length : Int) := by omega
        have hp : partsB n B = pieceB 2 B := by
          cases n with
          | zero => rfl
          | succ n' => show (if 1024 < B.length then _ else _) = _; rw [if_neg hlt]
        have HPC : Hid (Calls Tryz.prog 63 #[.int .i64 2, .slice ab B.length cb] wr fun e w' => ∃ v, e = .returned v ∧ Own w' wr.heap.size v (pieceB 2 B) ∧ Below wr.heap.size wr w') := piece7_any 2 _ B wr (by decide) hsr (by omega)
        rw [hp] at hAl
        have HST2 : Hid (SB = A ++ pieceB 2 B) := by show _ = _; rw [HST.out, hp]
        clear hp hBn HST hsr
        go_wp2_with first | (go_at_call 63; refine HPC.out.mono ?_; rintro e w1 ⟨v25, rfl, ho1, hb1⟩) | (at_builtin; refine app_own w1 rfl (.tmp 29) (.tmp 31) rfl w.heap.size _ A rfl (by exact hA.below hb1 (Nat.le_refl _)) v25 (pieceB 2 B) rfl ho1.seg (by omega) (Nat.le_trans hbw.size hb1.size) ?_; intro v26 w2 ho2 hg2 hv2; rw [← HST2.out] at ho2; obtain ⟨av, cv, rfl⟩ := Seg.shapeD ho2.seg)
        have hbw2 : Below w.heap.size w w2 := below_grown (hbw.trans (hb1.mono hbw.size)) hg2 (Nat.le_trans hbw.size hb1.size) (fun q hq => (hA.blocks q hq).1)
        have hB2 := hB.after hbw2
        have HSZ : Hid (Calls Tryz.prog 18 #[.pointer (some ⟨G, 0, none⟩)] w2 fun e w' => e = .returned (.int .i64 (sizeS s : Int)) ∧ w2 = w') := size7_any G L s l w2 hB2
        refine HSZ.out.mono ?_
        rintro e w3 ⟨rfl, rfl⟩
        have m1 := hB2.l.cell1
        have hCw : Chg (bothG G L) w w2 := Chg.of_below hbw2 (Nat.le_refl _)
        clear HSZ HPC hA hg2 hv2 hAl hbw hb1 ho1 hBs i1
        by_cases k1 : sizeS s < SB.length
        · have j1 : (sizeS s : Int) < (SB.length : Int) := by omega
          have HN : Hid (R = (3, s, l)) := by show _ = _; rw [HR.out, if_pos (.inl k1)]
          clear HR k1
          go_wp2_with fail
          go_ret
          rw [HN.out]
          exact ⟨rfl, hB2, hCw⟩
        · have j1 : ¬ (sizeS s : Int) < (SB.length : Int) := by omega
          by_cases k2 : 1048576 < G1
          · have j2 : (1048576 : Int) < (G1 : Int) := by omega
            have HN : Hid (R = (3, s, l)) := by show _ = _; rw [HR.out, if_pos (.inr (.inl k2))]
            clear HR k1 k2
            go_wp2_with fail
            go_ret
            rw [HN.out]
            exact ⟨rfl, hB2, hCw⟩
          · have j2 : ¬ (1048576 : Int) < (G1 : Int) := by omega
            by_cases k3 : 1073741824 ≤ l.n
            · have j3 : (1073741824 : Int) ≤ (l.n : Int) := by omega
              have HN : Hid (R = (3, s, l)) := by show _ = _; rw [HR.out, if_pos (.inr (.inr k3))]
              clear HR k1 k2 k3
              go_wp2_with fail
              go_ret
              rw [HN.out]
              exact ⟨rfl, hB2, hCw⟩
            · have j3 : decide ((1073741824 : Int) ≤ (l.n : Int)) = false := decide_eq_false (by omega)
              have HR0 : Hid (R = if (writeW s l.n G1 0 SB).1 ≠ 0 then ((writeW s l.n G1 0 SB).1, (writeW s l.n G1 0 SB).2, { l with broke := true }) else (0, (writeW s l.n G1 0 SB).2, { l with n := l.n + 1, gen := G1, b := SB, sure := SB.length, begun := true })) := by show _ = _; rw [HR.out, if_neg (by omega)]
              obtain ⟨-, hsz⟩ := halfS_le hB.d
              have hlt2 := hB.lt
              have hltU := hB.ltU
              have hneU : ∀ q, (Value.slice av SB.length cv).ownBlock = some q → ¬ (q = G ∨ L.U q) := fun q hq e => by have := (ho2.blocks q hq).1; have := hltU q e; omega
              have hne : ∀ q, (Value.slice av SB.length cv).ownBlock = some q → ¬ bothG G L q := fun q hq e => by have := (ho2.blocks q hq).1; have := hlt2 q e; omega
              have hw := write7_any G L s l G1 0 (.slice av SB.length cv) SB w2 hB2 ho2.seg (fun _ => hne) (by omega) (by omega) (by omega) (by omega)
              have HW : Hid (Calls Tryz.prog 65 #[.pointer (some ⟨G, 0, none⟩), .int .i64 (G1 : Int), .int .i64 0, .slice av SB.length cv] w2 fun e w' => e = .returned (.int .i64 (writeW s l.n G1 0 SB).1) ∧ RBoth w' G L (writeW s l.n G1 0 SB).2 (if (writeW s l.n G1 0 SB).1 = 0 then { l with n := l.n + 1 } else l) ∧ Chg (bothG G L) w2 w') := hw.mono fun e w' h => ⟨h.1, h.2.1, h.2.2.1⟩
              have hos := ho2.seg
              have hsb : SB.length ≤ 262016 := by omega
              have HNN : Hid (l.n + 1 ≤ 1073741824 ∧ G1 ≤ 1048576) := ⟨by omega, by omega⟩
              clear HR k1 k2 k3 hw
              generalize writeW s l.n G1 0 SB = Y at *
              obtain ⟨E, s2⟩ := Y
              dsimp only at HR0 HW
              generalize (l.n : Int) = NN at m1 j3
              go_wp2_with fail
              refine HW.out.mono ?_
              rintro e W4 ⟨rfl, hB4, hc4⟩
              have hC4 : Chg (bothG G L) w W4 := hCw.trans hc4 (fun _ _ h => h)
              have hs4 := hos.chg hc4 (fun _ => hne)
              clear hc4 HW hos m1 j1 j2 j3 hCw hB2 hbw2
              by_cases hE : E = 0
              · have b1 : (E != 0) = false := by rw [hE]; rfl
                rw [if_pos hE] at hB4
                have HN : Hid (R = (0, s2, { l with n := l.n + 1, gen := G1, b := SB, sure := SB.length, begun := true })) := by show _ = _; rw [HR0.out, if_neg (fun h => h hE)]
                obtain ⟨bv4, x1, -⟩ := hB4.l.head
                have f2 := x1.frozen 2
                have d2 := x1.cell (j := 2) rfl
                have x2 := x1.set 2 (.int .i64 (G1 : Int))
                have f3 := x2.frozen 3
                have d3 := x2.cell (j := 3) rfl
                have x3 := x2.set 3 (.slice av SB.length cv)
                have f4 := x3.frozen 4
                have d4 := x3.cell (j := 4) rfl
                have x4 := x3.set 4 (.int .i64 (SB.length : Int))
                have f5 := x4.frozen 5
                have d5 := x4.cell (j := 5) rfl
                have x5 := x4.set 5 (.bool true)
                have hcN : Chg (fun q => q = G) W4 ((((W4.setCell ⟨G, 2, none⟩ (.int .i64 (G1 : Int))).setCell ⟨G, 3, none⟩ (.slice av SB.length cv)).setCell ⟨G, 4, none⟩ (.int .i64 (SB.length : Int))).setCell ⟨G, 5, none⟩ (.bool true)) := ((((Chg.refl (fun q => q = G) W4).setCell G 2 _ (fun _ => rfl)).setCell G 3 _ (fun _ => rfl)).setCell G 4 _ (fun _ => rfl)).setCell G 5 _ (fun _ => rfl)
                have HB : Hid (RBoth ((((W4.setCell ⟨G, 2, none⟩ (.int .i64 (G1 : Int))).setCell ⟨G, 3, none⟩ (.slice av SB.length cv)).setCell ⟨G, 4, none⟩ (.int .i64 (SB.length : Int))).setCell ⟨G, 5, none⟩ (.bool true)) G L s2 { l with n := l.n + 1, gen := G1, b := SB, sure := SB.length, begun := true }) := ⟨hB4.d.chgG hB4.l hcN, ⟨⟨.slice av SB.length cv, x5.of_eq rfl, hs4.chg hcN (fun _ q hq e => hne q hq (.inl e)), fun _ => hneU⟩, hB4.l.off, HNN.out.1, HNN.out.2, hsb, Nat.le_refl _⟩⟩
                have HCN : Hid (Chg (bothG G L) w ((((W4.setCell ⟨G, 2, none⟩ (.int .i64 (G1 : Int))).setCell ⟨G, 3, none⟩ (.slice av SB.length cv)).setCell ⟨G, 4, none⟩ (.int .i64 (SB.length : Int))).setCell ⟨G, 5, none⟩ (.bool true))) := hC4.trans hcN (fun _ _ h => .inl h)
                clear x1 x2 x3 x4 x5 hcN HR0 hE
                go_wp2_with fail
                go_ret
                rw [HN.out]
                exact ⟨rfl, HB.out, HCN.out⟩
              · have b1 : (E != 0) = true := by simp [hE]
                rw [if_neg hE] at hB4
                have HN : Hid (R = (E, s2, { l with broke := true })) := by show _ = _; rw [HR0.out, if_pos hE]
                have HBK : Hid (Calls Tryz.prog 66 #[.pointer (some ⟨G, 0, none⟩), .int .i64 E] W4 fun e w' => e = .returned (.int .i64 E) ∧ RBoth w' G L s2 { l with broke := true } ∧ Chg (fun q => q = G) W4 w') := broke7_any G L s2 l E W4 hB4 hE
                clear HR0 hE
                go_wp2_with fail
                refine HBK.out.mono ?_
                rintro e W5 ⟨rfl, hB5, hc5⟩
                go_wp2_with fail
                go_ret
                rw [HN.out]
                exact ⟨rfl, hB5, hC4.trans hc5 (fun _ _ h => .inl h)⟩
end Go.Proofs.YtojgeahablphbaaGreat
