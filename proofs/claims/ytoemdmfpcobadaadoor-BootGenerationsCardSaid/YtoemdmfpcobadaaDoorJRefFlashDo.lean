/-
  What is proved here: the document's flash: programming and erasing.
  Conditions: the flash lies in memory.
-/
import Derived.Test.YtoemdmfpcobadaaDoorJRefFlash
import Derived.StillTailTactics
namespace Go.Proofs.YtoemdmfpcobadaaDoor
open Go.RowKit

theorem RFlash.setByte {w : World} {L : FLay} {s : FS} (h : RFlash w L s) (k : Nat) (x : UInt8) : RFlash (w.setCell ⟨L.bb, k, none⟩ (v8 x)) L { s with b := s.b.set k x } := by
  have hc : Chg (fun q => q = L.bb) w (w.setCell ⟨L.bb, k, none⟩ (v8 x)) := (Chg.refl _ w).setCell L.bb k _ (fun _ => rfl)
  exact ⟨⟨by show (s.b.set _ _).length = _; rw [List.length_set]; exact h.ok.b, h.ok.worn, h.ok.one, h.ok.cap, h.ok.most, h.ok.worns, h.ok.armed, h.ok.done⟩, h.gb, h.gw, h.bw, h.m, h.head.chg hc h.gb, (h.b.set k (v8 x)).of_eq (by simp [List.map_set]), h.worn.chg hc (fun e => h.bw e.symm)⟩
theorem bits_and8 (x y : UInt8) : bits .and .u8 (n8 x) (n8 y) = n8 (x &&& y) := by
  have h : ∀ a b : Nat, a < 256 → b < 256 → bits .and .u8 (a : Int) (b : Int) = ((a &&& b : Nat) : Int) := fun a b ha hb => by
    show IntKind.u8.wrap ((BitVec.ofInt 8 (a : Int) &&& BitVec.ofInt 8 (b : Int)).toNat : Int) = _
    rw [BitVec.ofInt_natCast, BitVec.ofInt_natCast, BitVec.toNat_and, BitVec.toNat_ofNat, BitVec.toNat_ofNat, Nat.mod_eq_of_lt ha, Nat.mod_eq_of_lt hb, wrap_u8_nat, Nat.mod_eq_of_lt (Nat.lt_of_le_of_lt Nat.and_le_left ha)]
  unfold n8
  rw [h _ _ x.toNat_lt y.toNat_lt, UInt8.toNat_and]
theorem bytes_at {l : List UInt8} {k : Nat} (h : k < l.length) : ((l.map v8).toArray)[k]? = some (v8 (l.getD k 0)) := by
  simp [h]

theorem index_bytesZ (b off len c : Nat) (z : Int) (I : Nat) (hz : z = (I : Int)) (h : I < len) (w : World) : (Instr.indexAt 41 (.slice (some ⟨b, off, none⟩) len c) (.int .i64 z)).run Tryd.prog w = .ok (.pointer (some ⟨b, off + I, none⟩)) w := by
  subst hz
  have hi : (0 : Int) ≤ (I : Int) ∧ (I : Int) < (len : Int) := by omega
  simp [Instr.indexAt, asIntOf, run_underlying Tryd.underlying41, hi, Addr.add_mid]
  intro h2
  omega

set_option maxRecDepth 100000 in
set_option maxHeartbeats 2000000 in
theorem ref6Program_any (L : FLay) (s : FS) (at_ : Int) (x : Value) (bs : List UInt8) (w : World) (hD : RFlash w L s) (hS : Seg w x bs) (hx : 0 < bs.length → ∀ q, x.ownBlock = some q → ¬ L.T q) :
    Calls Tryd.prog 16 #[.pointer (some ⟨L.g, 0, none⟩), .int .i64 at_, x] w fun e w' => e = .returned (.int .i64 (programF s at_ bs).1) ∧ RFlash w' L (programF s at_ bs).2 ∧ Chg L.T w w' := by
  have hh := hD.head
  have hl := hD.len
  have hml := hD.m_le
  unfold FLay.head at hh
  have c5 := hh.cell (j := 5) rfl
  obtain ⟨ab, cb, rfl⟩ := Seg.shapeD hS
  have HT : Hid (Calls Tryd.prog 35 #[.pointer (some ⟨L.g, 0, none⟩), .int .i64 at_, .int .i64 (bs.length : Int)] w fun e w' => e = .returned (.bool (thereB s at_ bs.length)) ∧ w = w') := ref6There_any L s at_ _ w hD
  obtain ⟨R, hR⟩ : ∃ R, R = programF s at_ bs := ⟨_, rfl⟩
  rw [← hR]
  unfold programF at hR
  cases ht : thereB s at_ bs.length with
  | false =>
    rw [ht] at hR HT
    have HR : Hid (R = (1, s)) := hR
    clear hR ht
    go_enter Tryd.func16, Tryd.ntmps16
    go_wp2_with (go_at_call 35; refine HT.out.mono ?_; rintro e w1 ⟨rfl, rfl⟩)
    go_ret
    rw [HR.out]
    exact ⟨rfl, hD, Chg.refl _ _⟩
  | true =>
    rw [ht] at hR HT
    cases hd : s.down with
    | true =>
      rw [hd] at c5 hR
      have HR : Hid (R = (7, s)) := hR
      clear hR ht hd
      go_enter Tryd.func16, Tryd.ntmps16
      go_wp2_with (go_at_call 35; refine HT.out.mono ?_; rintro e w1 ⟨rfl, rfl⟩)
      go_ret
      rw [HR.out]
      exact ⟨rfl, hD, Chg.refl _ _⟩
    | false =>
      rw [hd] at c5 hR
      unfold thereB at ht
      simp only [Bool.and_eq_true, decide_eq_true_eq, hl] at ht
      obtain ⟨⟨⟨h0, h1⟩, h2⟩, h3⟩ := ht
      obtain ⟨A, rfl⟩ : ∃ A : Nat, at_ = (A : Int) := ⟨at_.toNat, by omega⟩
      have hbl : bs.length ≤ 4096 := by omega
      have HG : Hid (Calls Tryd.prog 36 #[.pointer (some ⟨L.g, 0, none⟩), .int .i64 (bs.length : Int)] w fun e w' => e = .returned (.tuple #[.int .i64 ((goesF s bs.length).1 : Int), .int .i64 (goesF s bs.length).2.1]) ∧ RFlash w' L (goesF s bs.length).2.2 ∧ Chg (fun b => b = L.g) w w') := ref6Goes_any L s bs.length w hD hbl
      obtain ⟨-, hk1, hk2, -, -⟩ := goesF_ok hD.ok bs.length
      have HR : Hid (R = ((goesF s bs.length).2.1, { (goesF s bs.length).2.2 with b := progL s.b A bs (goesF s bs.length).1 })) := hR
      clear hR hd
      generalize goesF s bs.length = M at *
      obtain ⟨k, e1, s1⟩ := M
      have hk1' : k ≤ bs.length := hk1
      have hk2' : s1.b = s.b := hk2
      clear hk1 hk2
      go_enter Tryd.func16, Tryd.ntmps16
      go_wp2_with (first | (go_at_call 35; refine HT.out.mono ?_; rintro e w1 ⟨rfl, rfl⟩) | (go_at_call 36; refine HG.out.mono ?_; rintro e w1 ⟨rfl, hD1, hc1⟩))
      have hS1 : Seg w1 (.slice ab bs.length cb) bs := hS.chg hc1 (fun h0 q hq e => hx h0 q hq (.inl e))
      go_loopw [10] (fun i wr => ∃ I : Nat, I ≤ k ∧ i = .int .i64 (I : Int) ∧ RFlash wr L { s1 with b := progL s.b A bs I } ∧ Chg L.T w1 wr) (fun i _ => k - (intOf i).toNat)
      case atStart => exact ⟨0, Nat.zero_le _, rfl, by rw [progL_zero, ← hk2']; exact hD1, Chg.refl _ _⟩
      case round =>
        obtain ⟨I, hI, rfl, hDi, hCi⟩ := hrel
        by_cases hlt : I < k
        · have i1 : (I : Int) < (k : Int) := by omega
          have hhi := hDi.head
          unfold FLay.head at hhi
          have c0 := hhi.cell (j := 0) rfl
          have hSi : Seg wr (.slice ab bs.length cb) bs := hS1.chg hCi hx
          obtain ⟨qb, qo, rfl, hqc, hrow, _⟩ := hSi.formD (by omega)
          have d1 : wr.cell? ⟨qb, qo + I, none⟩ = some (.int .u8 (n8 (bs.getD I 0))) := by
            have := hrow I (by omega)
            rw [this]
            simp [show I < bs.length by omega]
          have hbl2 : (progL s.b A bs I).length = L.m := by rw [progL_len, hl]
          obtain ⟨P, hP⟩ : ∃ P, P = A + I := ⟨_, rfl⟩
          have hPm : P < L.m := by omega
          have d0 : wr.cell? ⟨L.bb, P, none⟩ = some (.int .u8 (n8 ((progL s.b A bs I).getD P 0))) := hDi.b.cell (bytes_at (by show P < (progL s.b A bs I).length; rw [hbl2]; exact hPm))
          have z0 := hDi.b.frozen P
          have HN : Hid ((progL s.b A bs I).set P ((progL s.b A bs I).getD P 0 &&& bs.getD I 0) = progL s.b A bs (I + 1)) := by show _ = _; rw [hP]; exact progL_step s.b A bs I (by omega)
          have hwr : IntKind.i64.wrap ((A : Int) + (I : Int)) = (P : Int) := by rw [IntKind.wrap_i64]; omega
          have hA2 : (P : Int) < (L.m : Int) := by omega
          have hA3 : (I : Int) < (bs.length : Int) := by omega
          have hD4 : RFlash (wr.setCell ⟨L.bb, P, none⟩ (v8 ((progL s.b A bs I).getD P 0 &&& bs.getD I 0))).drew L { s1 with b := progL s.b A bs (I + 1) } := by have := (hDi.setByte P ((progL s.b A bs I).getD P 0 &&& bs.getD I 0)).after ((Below.refl _ _).drew); rw [← HN.out]; exact this
          have hC4 := (hCi.setCell L.bb P (v8 ((progL s.b A bs I).getD P 0 &&& bs.getD I 0)) (fun _ => .inr (.inl rfl))).drew
          clear HN hP
          generalize (progL s.b A bs I).getD P 0 = X at *
          generalize bs.getD I 0 = Y at *
          unfold v8 at hD4 hC4
          rw [← bits_and8] at hD4 hC4
          go_wp2
          go_still_tail 21, (by kernel_rfl)
          go_wp2_with fail
          go_roundw
          case rel => exact ⟨I + 1, hlt, by go_num, hD4, hC4⟩
          case measure => simp [intOf]; omega
        · have i1 : ¬ (I : Int) < (k : Int) := by omega
          have HE : Hid (I = k) := by show _ = _; omega
          go_wp2
          go_ret
          rw [HR.out, ← HE.out]
          exact ⟨rfl, hDi, (hc1.weaken (fun _ h => .inl h)).trans (S' := L.T) hCi (fun _ _ h => h)⟩

theorem RFlash.setWorn {w : World} {L : FLay} {s : FS} (h : RFlash w L s) (k x : Nat) (hx : x ≤ s.most) : RFlash (w.setCell ⟨L.bw, k, none⟩ (.int .i64 (x : Int))) L { s with worn := s.worn.set k x } := by
  have hc : Chg (fun q => q = L.bw) w (w.setCell ⟨L.bw, k, none⟩ (.int .i64 (x : Int))) := (Chg.refl _ w).setCell L.bw k _ (fun _ => rfl)
  refine ⟨⟨h.ok.b, by show (s.worn.set _ _).length = _; rw [List.length_set]; exact h.ok.worn, h.ok.one, h.ok.cap, h.ok.most, fun y hy => ?_, h.ok.armed, h.ok.done⟩, h.gb, h.gw, h.bw, h.m, h.head.chg hc h.gw, h.b.chg hc h.bw, (h.worn.set k _).of_eq (by simp [wornV, List.map_set])⟩
  rcases List.mem_or_eq_of_mem_set hy with hy | hy
  · exact h.ok.worns y hy
  · rw [hy]; exact hx

set_option maxRecDepth 100000 in
set_option maxHeartbeats 2000000 in
theorem ref6Erase_any (L : FLay) (s : FS) (b : Int) (w : World) (hD : RFlash w L s) :
    Calls Tryd.prog 18 #[.pointer (some ⟨L.g, 0, none⟩), .int .i64 b] w fun e w' => e = .returned (.int .i64 (eraseF s b).1) ∧ RFlash w' L (eraseF s b).2 ∧ Chg L.T w w' := by
  have hh := hD.head
  have hl := hD.len
  have hml := hD.m_le
  have hwl := hD.ok.worn
  have hmo := hD.ok.most
  unfold FLay.head at hh
  have c1 := hh.cell (j := 1) rfl
  have c2 := hh.cell (j := 2) rfl
  have c5 := hh.cell (j := 5) rfl
  obtain ⟨R, hR⟩ : ∃ R, R = eraseF s b := ⟨_, rfl⟩
  rw [← hR]
  unfold eraseF at hR
  rw [hwl] at hR
  by_cases hk : b < 0 ∨ (L.n : Int) ≤ b
  · have HR : Hid (R = (1, s)) := by show _ = _; rw [hR, if_pos hk]
    clear hR
    rcases hk with hk | hk
    · go_enter Tryd.func18, Tryd.ntmps18
      go_wp2
      go_ret
      rw [HR.out]
      exact ⟨rfl, hD, Chg.refl _ _⟩
    · have hk0 : ¬ b < 0 := by omega
      go_enter Tryd.func18, Tryd.ntmps18
      go_wp2
      go_ret
      rw [HR.out]
      exact ⟨rfl, hD, Chg.refl _ _⟩
  rw [if_neg hk] at hR
  obtain ⟨B, rfl⟩ : ∃ B : Nat, b = (B : Int) := ⟨b.toNat, by omega⟩
  have hk0 : ¬ (B : Int) < 0 := by omega
  have hkn : ¬ (L.n : Int) ≤ (B : Int) := by omega
  have hkm : (B : Int) < (L.n : Int) := by omega
  have hBn : B < L.n := by omega
  clear hk
  rw [Int.toNat_natCast] at hR
  cases hd : s.down with
  | true =>
    rw [hd] at c5 hR
    have HR : Hid (R = (7, s)) := hR
    clear hR hd
    go_enter Tryd.func18, Tryd.ntmps18
    go_wp2
    go_ret
    rw [HR.out]
    exact ⟨rfl, hD, Chg.refl _ _⟩
  | false =>
    rw [hd] at c5 hR
    have d1 := hD.worn.cell (wornV_at (l := s.worn) (k := B) (by omega))
    by_cases hw : s.most ≤ s.worn.getD B 0
    · have HR : Hid (R = (8, s)) := by show _ = _; rw [hR, if_neg (by simp), if_pos hw]
      have hw' : (s.most : Int) ≤ ((s.worn.getD B 0 : Nat) : Int) := by omega
      clear hR hd
      generalize s.worn.getD B 0 = X at *
      go_enter Tryd.func18, Tryd.ntmps18
      go_wp2
      go_still (by kernel_rfl)
      go_wp2
      go_ret
      rw [HR.out]
      exact ⟨rfl, hD.after ((Below.refl _ _).drew), (Chg.refl _ _).drew⟩
    · have hw' : ¬ (s.most : Int) ≤ ((s.worn.getD B 0 : Nat) : Int) := by omega
      have hw2 : s.worn.getD B 0 < s.most := by omega
      have HG : Hid (Calls Tryd.prog 36 #[.pointer (some ⟨L.g, 0, none⟩), .int .i64 1024] w.drew fun e w' => e = .returned (.tuple #[.int .i64 ((goesF s 1024).1 : Int), .int .i64 (goesF s 1024).2.1]) ∧ RFlash w' L (goesF s 1024).2.2 ∧ Chg (fun b => b = L.g) w.drew w') := ref6Goes_any L s 1024 w.drew (hD.after ((Below.refl _ _).drew)) (by omega)
      obtain ⟨-, hk1, hk2, hk3, hk4⟩ := goesF_ok hD.ok 1024
      have HR : Hid (R = ((goesF s 1024).2.1, { (goesF s 1024).2.2 with b := onesL s.b (1024 * B) (goesF s 1024).1, worn := s.worn.set B (s.worn.getD B 0 + 1) })) := by show _ = _; rw [hR, if_neg (by simp), if_neg hw]
      obtain ⟨Q, hQ⟩ : ∃ Q, Q = 1024 * B := ⟨_, rfl⟩
      rw [← hQ] at HR
      have HQ : Hid (Q = 1024 * B) := hQ
      have hcap := hD.ok.cap
      have hwq : IntKind.i64.wrap (1024 * (B : Int)) = (Q : Int) := by rw [IntKind.wrap_i64]; omega
      clear hR hd hw hQ
      generalize goesF s 1024 = M at *
      obtain ⟨k, e1, s1⟩ := M
      have hk1' : k ≤ 1024 := hk1
      have hk2' : s1.b = s.b := hk2
      have hk3' : s1.worn = s.worn := hk3
      have hk4' : s1.most = s.most := hk4
      clear hk1 hk2 hk3 hk4
      obtain ⟨X, hX⟩ : ∃ X, X = s.worn.getD B 0 := ⟨_, rfl⟩
      rw [← hX] at d1 hw' hw2 HR
      have HX : Hid (X = s.worn.getD B 0) := hX
      have hw3 : (X : Int) < (s.most : Int) := by omega
      clear hX
      go_enter Tryd.func18, Tryd.ntmps18
      go_wp2
      go_still (by kernel_rfl)
      go_wp2_with (go_at_call 36; refine HG.out.mono ?_; rintro e w1 ⟨rfl, hD1, hc1⟩)
      go_loopw [7] (fun i wr => ∃ I : Nat, I ≤ k ∧ i = .int .i64 (I : Int) ∧ RFlash wr L { s1 with b := onesL s.b Q I } ∧ Chg L.T w1 wr) (fun i _ => k - (intOf i).toNat)
      case atStart => exact ⟨0, Nat.zero_le _, rfl, by rw [onesL_zero, ← hk2']; exact hD1, Chg.refl _ _⟩
      case round =>
        obtain ⟨I, hI, rfl, hDi, hCi⟩ := hrel
        have hhi := hDi.head
        unfold FLay.head at hhi
        have c0 := hhi.cell (j := 0) rfl
        by_cases hlt : I < k
        · have i1 : (I : Int) < (k : Int) := by omega
          obtain ⟨P, hP⟩ : ∃ P, P = Q + I := ⟨_, rfl⟩
          have hm2 := hD.m
          have hQ := HQ.out
          have hbl2 : (onesL s.b Q I).length = L.m := by rw [onesL_len, hl]
          have hPm : P < L.m := by omega
          have d0 : wr.cell? ⟨L.bb, P, none⟩ = some (.int .u8 (n8 ((onesL s.b Q I).getD P 0))) := hDi.b.cell (bytes_at (by show P < (onesL s.b Q I).length; rw [hbl2]; exact hPm))
          have z0 := hDi.b.frozen P
          have hN : (onesL s.b Q I).set P 255 = onesL s.b Q (I + 1) := by rw [hP]; exact onesL_step s.b Q I (by omega)
          have hD4 : RFlash (wr.setCell ⟨L.bb, P, none⟩ (v8 255)) L { s1 with b := onesL s.b Q (I + 1) } := by have := hDi.setByte P 255; rw [← hN]; exact this
          have hC4 := hCi.setCell L.bb P (v8 255) (fun _ => .inr (.inl rfl))
          have hwr : IntKind.i64.wrap ((Q : Int) + (I : Int)) = (P : Int) := by rw [IntKind.wrap_i64]; omega
          have hA2 : (P : Int) < (L.m : Int) := by omega
          clear hN hP hm2 hQ
          generalize (onesL s.b Q I).getD P 0 = Y at *
          go_wp2
          go_roundw
          case rel => exact ⟨I + 1, hlt, by go_num, hD4, hC4⟩
          case measure => simp [intOf]; omega
        · have i1 : ¬ (I : Int) < (k : Int) := by omega
          have HE : Hid (I = k) := by show _ = _; omega
          have hmo1 : X + 1 ≤ s1.most := by omega
          have c1i := hhi.cell (j := 1) rfl
          have d1i : wr.cell? ⟨L.bw, B, none⟩ = some (.int .i64 (X : Int)) := by
            have := hDi.worn.cell (wornV_at (l := s1.worn) (k := B) (by rw [hk3']; omega))
            rw [this, hk3', ← HX.out]
          have z1i := hDi.worn.frozen B
          have hD5 := hDi.setWorn B (X + 1) hmo1
          have hC5 := hCi.setCell L.bw B (.int .i64 ((X + 1 : Nat) : Int)) (fun _ => .inr (.inr rfl))
          go_wp2
          go_ret
          rw [HR.out, ← HE.out]
          have hfin : ({ s1 with b := onesL s.b Q I, worn := s.worn.set B (X + 1) } : FS) = { { s1 with b := onesL s.b Q I } with worn := s1.worn.set B (X + 1) } := by rw [hk3']
          refine ⟨rfl, ?_, ((Chg.refl _ w).drew.trans (hc1.weaken (fun _ h => .inl h)) (fun _ _ h => h)).trans (S' := L.T) hC5 (fun _ _ h => h)⟩
          show RFlash _ L ({ s1 with b := onesL s.b Q I, worn := s.worn.set B (X + 1) } : FS)
          rw [hfin]
          exact hD5
end Go.Proofs.YtoemdmfpcobadaaDoor
