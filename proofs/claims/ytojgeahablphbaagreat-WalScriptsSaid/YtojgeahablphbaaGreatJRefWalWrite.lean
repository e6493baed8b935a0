/-
  What is proved here: the document's log: what a change writes.
  Conditions: the disk and the log lie in memory.
-/
import Derived.Test.YtojgeahablphbaaGreatJRefWalOpen
import Derived.Test.YtojgeahablphbaaGreatJRefDiskWrite
import Derived.Test.YtojgeahablphbaaGreatJRefDiskSync
import Derived.Lib.MinMax
namespace Go.Proofs.YtojgeahablphbaaGreat
open Go.RowKit

theorem exec_add7 {a : Act} {o : Oper} {w : World} (t : TypeId) (x y : Operand) (ho : o.op = .binOp .add t x y t) (m n r : Int) (hx : a.eval x = .int .i64 m) (hy : a.eval y = .int .i64 n) (h : IntKind.i64.wrap (m + n) = r) : (execOp a.eval o).run Tryz.prog w = .ok (.value (.int .i64 r)) w := by
  unfold execOp
  simp [ho, hx, hy]
  rw [← h]
  rfl
theorem exec_min7 {a : Act} {o : Oper} {w : World} (x y : Operand) {ts : Array TypeId} (ho : o.op = .call { callee := .builtin .min, args := #[x, y], argTypes := ts }) (m n r : Int) (hx : a.eval x = .int .i64 m) (hy : a.eval y = .int .i64 n) (h : min m n = r) : (execOp a.eval o).run Tryz.prog w = .ok (.value (.int .i64 r)) w := by
  subst h
  unfold execOp
  simp [ho, resolve, invoke, builtin, hx, hy, Lib.run_min_ints]
theorem exec_three7 {a : Act} {o : Oper} {w : World} (f : FuncId) (x y z : Operand) (ts : Array TypeId) (ho : o.op = .call { callee := .value (.func f), args := #[x, y, z], argTypes := ts }) (u v t : Value) (hx : a.eval x = u) (hy : a.eval y = v) (hz : a.eval z = t) (hc : ∀ args w, (callFunc f args).run Tryz.prog w = .ok (.enter f args) w) : (execOp a.eval o).run Tryz.prog w = .ok (.enter f #[u, v, t]) w := by
  have he : a.eval (.func f) = .func (.func f) #[] #[] := rfl
  unfold execOp
  simp [ho, resolve, invoke, Deferred.ofValue, he, hx, hy, hz, hc]
theorem RLog.cell0 {w : World} {G : Nat} {L : RLay} {l : LS} (h : RLog w G L l) : w.cell? ⟨G, 0, none⟩ = some (.pointer (some ⟨L.g, 0, none⟩)) := by obtain ⟨bv, h1, _⟩ := h.head; exact h1.cell (j := 0) rfl
theorem RLog.cell1 {w : World} {G : Nat} {L : RLay} {l : LS} (h : RLog w G L l) : w.cell? ⟨G, 1, none⟩ = some (.int .i64 (l.n : Int)) := by obtain ⟨bv, h1, _⟩ := h.head; exact h1.cell (j := 1) rfl
theorem writeS_len (s : DS) (k : Int) (b : List UInt8) : (writeS s k b).2.now.length = s.now.length := by
  have hm : (mayS s).2.now = s.now := by unfold mayS; split; rfl; split; rfl; split; rfl; split <;> rfl
  unfold writeS
  split
  · rfl
  · split
    · rw [hm]
    · show ((mayS s).2.now.set _ _).length = _; rw [List.length_set, hm]

theorem Chg.cellG {S : Nat → Prop} {w w' : World} {G : Nat} (h : Chg S w w') (hG : ¬ S G) (hl : G < w.heap.size) (j : Nat) : w'.cell? ⟨G, j, none⟩ = w.cell? ⟨G, j, none⟩ := World.cell?_of_block (h.2 G hl hG)

set_option maxRecDepth 100000 in
set_option maxHeartbeats 8000000 in
theorem write7_any (G : Nat) (L : RLay) (s : DS) (l : LS) (gen frm : Nat) (x : Value) (b : List UInt8) (w : World) (hB : RBoth w G L s l) (hS : Seg w x b) (hx : 0 < b.length → ∀ q, x.ownBlock = some q → ¬ bothG G L q) (hg : gen ≤ 1048576) (hf : frm ≤ 262016) (hb : b.length ≤ 262016) (hn : l.n < 1073741824) :
    Calls Tryz.prog 65 #[.pointer (some ⟨G, 0, none⟩), .int .i64 (gen : Int), .int .i64 (frm : Int), x] w fun e w' => e = .returned (.int .i64 (writeW s l.n gen frm b).1) ∧ RBoth w' G L (writeW s l.n gen frm b).2 (if (writeW s l.n gen frm b).1 = 0 then { l with n := l.n + 1 } else l) ∧ Chg (bothG G L) w w' ∧ ∀ j, j ≠ 1 → w'.cell? ⟨G, j, none⟩ = w.cell? ⟨G, j, none⟩ := by
  have hlG := hB.l.lt
  obtain ⟨ax, cx, rfl⟩ := Seg.shapeD hS
  have HH : Hid (Calls Tryz.prog 25 #[.pointer (some ⟨L.g, 0, none⟩)] w fun e w' => e = .returned (.int .i64 (halfS s : Int)) ∧ w = w') := half7_any L s w hB.d
  obtain ⟨hh, -⟩ := halfS_le hB.d
  have c0 := hB.l.cell0
  have hoff := hB.l.off
  obtain ⟨FI, hFI⟩ : ∃ FI, FI = 2 + gen % 2 * halfS s := ⟨_, rfl⟩
  obtain ⟨R, hR⟩ : ∃ R, R = writeW s l.n gen frm b := ⟨_, rfl⟩
  rw [← hR]
  obtain ⟨l2, hl2⟩ : ∃ l2, l2 = if R.1 = 0 then { l with n := l.n + 1 } else l := ⟨_, rfl⟩
  rw [← hl2]
  have HL : Hid (l2 = if R.1 = 0 then { l with n := l.n + 1 } else l) := hl2
  clear hl2
  unfold writeW at hR
  rw [← hFI] at hR
  have HR : Hid (R = if (rowsW FI b (b.length + 1) (frm / 128) s).1 ≠ 0 then rowsW FI b (b.length + 1) (frm / 128) s else sealW l.n gen b.length (rowsW FI b (b.length + 1) (frm / 128) s).2) := hR
  clear hR
  have hk1 : gen % 2 * halfS s ≤ 2047 := by
    obtain h | h : gen % 2 = 0 ∨ gen % 2 = 1 := by omega
    · rw [h]; omega
    · rw [h]; omega
  have q1 : (gen : Int).tmod 2 = ((gen % 2 : Nat) : Int) := by rw [Int.tmod_eq_emod_of_nonneg (by omega)]; omega
  have q2 : IntKind.i64.wrap (((gen % 2 : Nat) : Int) * (halfS s : Int)) = ((gen % 2 * halfS s : Nat) : Int) := by rw [← Int.natCast_mul, IntKind.wrap_i64]; omega
  have q3 : IntKind.i64.wrap (2 + ((gen % 2 * halfS s : Nat) : Int)) = (FI : Int) := by rw [IntKind.wrap_i64]; omega
  have q4 : IntKind.i64.wrap ((frm : Int).tdiv 128) = ((frm / 128 : Nat) : Int) := by rw [Int.tdiv_eq_ediv_of_nonneg (by omega), IntKind.wrap_i64]; omega
  have hFb : FI ≤ 2049 := by omega
  obtain ⟨I0, hI0⟩ : ∃ I0, I0 = frm / 128 := ⟨_, rfl⟩
  rw [← hI0] at HR q4
  have q5 : Hid (wrap64 ((frm : Int) / 128) = (I0 : Int)) := by
    show wrap64 ((frm : Int) / 128) = (I0 : Int)
    unfold wrap64
    omega
  have hI0b : I0 ≤ 2047 := by omega
  generalize gen % 2 * halfS s = GH at *
  generalize gen % 2 = G2 at *
  generalize halfS s = HF at *
  clear hFI hI0 hf hk1 hh
  go_enter Tryz.func65, Tryz.ntmps65
  go_wp2_with fail
  refine HH.out.mono ?_
  rintro e w1 ⟨rfl, rfl⟩
  go_wp2_with fail
  clear HH c0 q1 q2 q3
  go_loopw [10] (fun i wr => ∃ (J F : Nat) (t : DS), i = .int .i64 (J : Int) ∧ F + J = b.length + 1 + I0 ∧ J ≤ 2047 ∧ rowsW FI b (b.length + 1) I0 s = rowsW FI b F J t ∧ RBoth wr G L t l ∧ Chg L.T w wr) (fun i _ => 3000 - (intOf i).toNat)
  case atStart => exact ⟨I0, b.length + 1, s, by rw [q5.out], rfl, hI0b, rfl, hB, Chg.refl _ _⟩
  case round =>
    obtain ⟨J, F, t, rfl, hFJ, hJ, hrw, hBr, hcr⟩ := hrel
    have HRW : Hid (rowsW FI b (b.length + 1) I0 s = rowsW FI b F J t) := hrw
    clear hrw
    have hSr := hS.chg hcr (fun h q hq e => hx h q hq (.inr e))
    obtain ⟨LO, hLO⟩ : ∃ LO, LO = J * 128 := ⟨_, rfl⟩
    have e2 : IntKind.i64.wrap ((J : Int) * 128) = (LO : Int) := by rw [IntKind.wrap_i64]; omega
    by_cases hlt : LO < b.length
    · have hJ7 : J + 1 ≤ 2047 := by omega
      obtain ⟨F', hF'⟩ : ∃ F', F = F' + 1 := ⟨F - 1, by omega⟩
      obtain ⟨K1, hK1⟩ : ∃ K1, K1 = FI + J := ⟨_, rfl⟩
      obtain ⟨J1, hJ1⟩ : ∃ J1, J1 = J + 1 := ⟨_, rfl⟩
      obtain ⟨HI0, hHI0⟩ : ∃ HI0, HI0 = J1 * 128 := ⟨_, rfl⟩
      obtain ⟨HI, hHI⟩ : ∃ HI, HI = min b.length HI0 := ⟨_, rfl⟩
      have e1 : IntKind.i64.wrap ((FI : Int) + (J : Int)) = (K1 : Int) := by rw [IntKind.wrap_i64]; omega
      have e3 : IntKind.i64.wrap ((J : Int) + 1) = (J1 : Int) := by rw [IntKind.wrap_i64]; omega
      have e4 : IntKind.i64.wrap ((J1 : Int) * 128) = (HI0 : Int) := by rw [IntKind.wrap_i64]; omega
      have e5 : min (b.length : Int) (HI0 : Int) = (HI : Int) := by omega
      obtain ⟨row, hrow⟩ : ∃ row, row = Value.slice (restD ax cx LO) (HI - LO) (cx - LO) := ⟨_, rfl⟩
      have hcx : b.length ≤ cx := by rcases hSr with ⟨e, _⟩ | ⟨_, _, _, e, e', _⟩; (rw [e] at hlt; cases hlt); (injection e with _ _ e3; rw [e3]; exact e')
      have l5 : ∀ V, (Instr.slice 33 (.slice ax b.length cx) (some (.int .i64 (LO : Int))) (some (.int .i64 (HI : Int))) none).run Tryz.prog V = .ok row V := fun V => by rw [hrow]; exact slice_midT ax b.length cx LO HI (by omega) (by omega) V
      have hrB : rowB b J = (b.drop LO).take (HI - LO) := by
        unfold rowB
        rw [← hLO]
        by_cases h : HI0 ≤ b.length
        · rw [show HI - LO = 128 by omega]
        · rw [List.take_of_length_le (by rw [List.length_drop]; omega), List.take_of_length_le (by rw [List.length_drop]; omega)]
      have hseg : Seg wr.drew row (rowB b J) := by
        rw [hrow, hrB]
        exact ((hSr.drew.dropsD LO (by omega)).takesD (HI - LO) (by omega)).1
      have hap : 0 < (rowB b J).length → ∀ q, row.ownBlock = some q → ¬ L.T q := fun _ q hq e => by
        rw [hrow] at hq
        have h1 : (Value.slice ax b.length cx).ownBlock = some q := rest_block ax cx LO _ _ b.length q hq
        exact hx (by omega) q h1 (.inr e)
      have hrl : (rowB b J).length ≤ 1000000 := by unfold rowB; rw [List.length_take]; omega
      have hBd := hBr.after ((Below.refl wr.heap.size wr).drew)
      have HW := refWrite_any L t (K1 : Int) row (rowB b J) wr.drew hBd.d hseg hrl hap
      have hlr := hBd.l
      have hS0 : wr.drew.cell? ⟨G, 0, none⟩ = some (.pointer (some ⟨L.g, 0, none⟩)) := hlr.cell0
      have HST : Hid (rowsW FI b F J t = if (writeS t (K1 : Int) (rowB b J)).1 ≠ 0 then writeS t (K1 : Int) (rowB b J) else rowsW FI b F' (J + 1) (writeS t (K1 : Int) (rowB b J)).2) := by
        show _ = _
        rw [hF', hK1]
        show (if b.length ≤ J * 128 then _ else _) = _
        rw [if_neg (by omega)]
      clear hrow hrB hseg hap hrl hcx hK1 hLO hHI0 hHI
      generalize hWS : writeS t (K1 : Int) (rowB b J) = WS at *
      obtain ⟨E, t2⟩ := WS
      dsimp only at HW HST
      go_wp2_with fail
      refine held_begin (fun V => V.cell? ⟨G, 0, none⟩ = some (.pointer (some ⟨L.g, 0, none⟩))) (by kernel_rfl) ?_
      refine held_take 0 31 _ (.pointer (some ⟨G, 0, none⟩)) rfl rfl (by kernel_rfl) (by kernel_rfl) (by kernel_rfl) rfl hS0 (fun _ _ => rfl) ?_
      simp only [Act.put, List.setIfInBounds_toArray, List.set_cons_succ, List.set_cons_zero]
      refine held_take 1 32 _ (.pointer (some ⟨G, 0, none⟩)) rfl rfl (by kernel_rfl) (by kernel_rfl) (by kernel_rfl) rfl hS0 (fun _ _ => rfl) ?_
      simp only [Act.put, List.setIfInBounds_toArray, List.set_cons_succ, List.set_cons_zero]
      refine held_take 2 33 _ (.pointer (some ⟨G, 0, none⟩)) rfl rfl (by kernel_rfl) (by kernel_rfl) (by kernel_rfl) rfl hS0 (fun _ _ => rfl) ?_
      simp only [Act.put, List.setIfInBounds_toArray, List.set_cons_succ, List.set_cons_zero]
      refine held_take 3 34 _ (.pointer (some ⟨L.g, 0, none⟩)) rfl rfl (by kernel_rfl) (by kernel_rfl) (by kernel_rfl) rfl hS0 (fun V hV => exec_loadc 29 _ rfl _ _ rfl (load_one 29 (fun _ => by kernel_rfl) V _ _ _ hV)) ?_
      simp only [Act.put, List.setIfInBounds_toArray, List.set_cons_succ, List.set_cons_zero]
      refine held_take 4 35 _ (.int .i64 (FI : Int)) rfl rfl (by kernel_rfl) (by kernel_rfl) (by kernel_rfl) rfl hS0 (fun _ _ => rfl) ?_
      simp only [Act.put, List.setIfInBounds_toArray, List.set_cons_succ, List.set_cons_zero]
      refine held_take 5 36 _ (.int .i64 (J : Int)) rfl rfl (by kernel_rfl) (by kernel_rfl) (by kernel_rfl) rfl hS0 (fun _ _ => rfl) ?_
      simp only [Act.put, List.setIfInBounds_toArray, List.set_cons_succ, List.set_cons_zero]
      refine held_take 6 37 _ (.int .i64 (K1 : Int)) rfl rfl (by kernel_rfl) (by kernel_rfl) (by kernel_rfl) rfl hS0 (fun _ _ => exec_add7 _ _ _ rfl _ _ _ rfl rfl e1) ?_
      simp only [Act.put, List.setIfInBounds_toArray, List.set_cons_succ, List.set_cons_zero]
      refine held_take 7 38 _ (.slice ax b.length cx) rfl rfl (by kernel_rfl) (by kernel_rfl) (by kernel_rfl) rfl hS0 (fun _ _ => rfl) ?_
      simp only [Act.put, List.setIfInBounds_toArray, List.set_cons_succ, List.set_cons_zero]
      refine held_take 8 39 _ (.int .i64 (J : Int)) rfl rfl (by kernel_rfl) (by kernel_rfl) (by kernel_rfl) rfl hS0 (fun _ _ => rfl) ?_
      simp only [Act.put, List.setIfInBounds_toArray, List.set_cons_succ, List.set_cons_zero]
      refine held_take 9 40 _ (.int .i64 (LO : Int)) rfl rfl (by kernel_rfl) (by kernel_rfl) (by kernel_rfl) rfl hS0 (fun _ _ => exec_mul7 _ _ _ rfl _ _ _ rfl rfl e2) ?_
      simp only [Act.put, List.setIfInBounds_toArray, List.set_cons_succ, List.set_cons_zero]
      refine held_take 10 41 _ (.slice ax b.length cx) rfl rfl (by kernel_rfl) (by kernel_rfl) (by kernel_rfl) rfl hS0 (fun _ _ => rfl) ?_
      simp only [Act.put, List.setIfInBounds_toArray, List.set_cons_succ, List.set_cons_zero]
      refine held_take 11 42 _ (.int .i64 (b.length : Int)) rfl rfl (by kernel_rfl) (by kernel_rfl) (by kernel_rfl) rfl hS0 (fun _ _ => exec_len _ rfl _ _ _ rfl) ?_
      simp only [Act.put, List.setIfInBounds_toArray, List.set_cons_succ, List.set_cons_zero]
      refine held_take 12 43 _ (.int .i64 (J : Int)) rfl rfl (by kernel_rfl) (by kernel_rfl) (by kernel_rfl) rfl hS0 (fun _ _ => rfl) ?_
      simp only [Act.put, List.setIfInBounds_toArray, List.set_cons_succ, List.set_cons_zero]
      refine held_take 13 44 _ (.int .i64 (J1 : Int)) rfl rfl (by kernel_rfl) (by kernel_rfl) (by kernel_rfl) rfl hS0 (fun _ _ => exec_add7 _ _ _ rfl _ _ _ rfl rfl e3) ?_
      simp only [Act.put, List.setIfInBounds_toArray, List.set_cons_succ, List.set_cons_zero]
      refine held_take 14 45 _ (.int .i64 (HI0 : Int)) rfl rfl (by kernel_rfl) (by kernel_rfl) (by kernel_rfl) rfl hS0 (fun _ _ => exec_mul7 _ _ _ rfl _ _ _ rfl rfl e4) ?_
      simp only [Act.put, List.setIfInBounds_toArray, List.set_cons_succ, List.set_cons_zero]
      refine held_take 15 46 _ (.int .i64 (HI : Int)) rfl rfl (by kernel_rfl) (by kernel_rfl) (by kernel_rfl) rfl hS0 (fun _ _ => exec_min7 _ _ rfl _ _ _ rfl rfl e5) ?_
      simp only [Act.put, List.setIfInBounds_toArray, List.set_cons_succ, List.set_cons_zero]
      refine held_take 16 47 _ (row) rfl rfl (by kernel_rfl) (by kernel_rfl) (by kernel_rfl) rfl hS0 (fun V _ => exec_sliceT _ _ _ _ rfl (.slice ax b.length cx) _ (some (.int .i64 (LO : Int))) (some (.int .i64 (HI : Int))) none rfl rfl rfl rfl (l5 V)) ?_
      simp only [Act.put, List.setIfInBounds_toArray, List.set_cons_succ, List.set_cons_zero]
      refine held_all1 17 (by kernel_rfl) (op_call 17 48 _ 40 #[.pointer (some ⟨L.g, 0, none⟩), .int .i64 (K1 : Int), row] rfl rfl rfl (exec_three7 40 _ _ _ _ rfl _ _ _ rfl rfl rfl Tryz.call40) (HW.mono ?_))
      rintro e W2 ⟨rfl, hD2, hc2⟩
      have hl2 := hlr.chg hc2 hoff (fun _ h => .inr h)
      have hS2 : W2.cell? ⟨G, 0, none⟩ = some (.pointer (some ⟨L.g, 0, none⟩)) := hl2.cell0
      refine ⟨_, rfl, hS2, ?_⟩
      simp only [Act.put, List.setIfInBounds_toArray, List.set_cons_succ, List.set_cons_zero]
      refine held_all1 18 (by kernel_rfl) (op_value 18 11 _ (.int .i64 E) W2 rfl rfl rfl rfl ⟨hS2, ?_⟩)
      simp only [Act.put, List.setIfInBounds_toArray, List.set_cons_succ, List.set_cons_zero]
      refine wpAnyH_done (by kernel_rfl) ?_ _
      refine NoPanic.normal ?_
      have hc3 : Chg L.T w W2 := hcr.drew.trans hc2 (fun _ _ h => h)
      have hB2 : RBoth W2 G L t2 l := ⟨hD2, hl2⟩
      clear hc2 hS2 hS0 hlr hBd hD2 hl2
      by_cases hE : E = 0
      · have b1 : (E != 0) = false := by rw [hE]; rfl
        have HN : Hid (rowsW FI b F J t = rowsW FI b F' (J + 1) t2) := by show _ = _; rw [HST.out, if_neg (by rw [hE]; exact fun h => h rfl)]
        clear hE HST
        go_wp2_with fail
        go_roundw
        case rel => exact ⟨J + 1, F', t2, rfl, by omega, hJ7, by rw [HRW.out, HN.out], hB2, hc3⟩
        case measure => simp only [intOf]; omega
      · have b1 : (E != 0) = true := by simp [hE]
        have HN : Hid (R = (E, t2)) := by
          have hq : rowsW FI b (b.length + 1) I0 s = (E, t2) := by rw [HRW.out, HST.out, if_pos hE]
          show _ = _
          rw [HR.out, hq, if_pos hE]
        clear HST
        have HL2 : Hid (l2 = l) := by show _ = _; rw [HL.out, HN.out, if_neg hE]
        go_wp2_with fail
        go_ret
        refine ⟨?_, ?_, hc3.weaken (fun _ h => .inr h), fun j _ => hc3.cellG hoff hlG j⟩
        · rw [HN.out]; rfl
        · rw [HN.out, HL2.out]; exact hB2
    · have HQ : rowsW FI b (b.length + 1) I0 s = (0, t) := by
        rw [HRW.out]
        cases F with
        | zero => rfl
        | succ F' => show (if b.length ≤ J * 128 then _ else _) = _; rw [if_pos (by omega)]
      have HR2 : Hid (R = sealW l.n gen b.length t) := by show _ = _; rw [HR.out, HQ]; exact if_neg (fun h => h rfl)
      have HS1 : Hid (Calls Tryz.prog 42 #[.pointer (some ⟨L.g, 0, none⟩)] wr fun e w' => e = .returned (.int .i64 (syncS t).1) ∧ RDisk w' L (syncS t).2 ∧ Chg L.T wr w') := refSync_any L t wr hBr.d
      unfold sealW at HR2
      generalize syncS t = Y1 at *
      obtain ⟨E1, t1⟩ := Y1
      dsimp only at HS1 HR2
      have c0 := hBr.l.cell0
      clear HQ HR HRW hFJ hLO q4 q5 hI0b
      go_wp2_with fail
      refine HS1.out.mono ?_
      rintro e W1 ⟨rfl, hD1, hc1⟩
      have hB1 : RBoth W1 G L t1 l := ⟨hD1, hBr.l.chg hc1 hoff (fun _ h => .inr h)⟩
      have hC1 : Chg L.T w W1 := hcr.trans hc1 (fun _ _ h => h)
      clear HS1 c0 hD1 hc1 hBr hcr hSr
      by_cases hE : E1 = 0
      · have b1 : (E1 == 0) = true := by rw [hE]; rfl
        obtain ⟨N, hN⟩ : ∃ N, N = l.n := ⟨_, rfl⟩
        obtain ⟨N1, hN1⟩ : ∃ N1, N1 = N + 1 := ⟨_, rfl⟩
        obtain ⟨N2, hN2⟩ : ∃ N2, N2 = N1 % 2 := ⟨_, rfl⟩
        have g1 : IntKind.i64.wrap ((N : Int) + 1) = (N1 : Int) := by rw [IntKind.wrap_i64]; omega
        have g2 : (N1 : Int).tmod 2 = (N2 : Int) := by rw [Int.tmod_eq_emod_of_nonneg (by omega)]; omega
        have hBd := hB1.after ((Below.refl W1.heap.size W1).drew)
        have hS0 : W1.drew.cell? ⟨G, 0, none⟩ = some (.pointer (some ⟨L.g, 0, none⟩)) ∧ W1.drew.cell? ⟨G, 1, none⟩ = some (.int .i64 (N : Int)) := ⟨hBd.l.cell0, by rw [hN]; exact hBd.l.cell1⟩
        have HR3 : Hid (R = if (writeS t1 (N2 : Int) (headB N1 gen b.length)).1 ≠ 0 then writeS t1 (N2 : Int) (headB N1 gen b.length) else syncS (writeS t1 (N2 : Int) (headB N1 gen b.length)).2) := by show _ = _; rw [HR2.out, if_neg (fun h => h hE), hN2, hN1, hN]
        clear HR2
        have hc1 : ∀ {V : World}, RLog V G L l → V.cell? ⟨G, 1, none⟩ = some (.int .i64 (N : Int)) := fun h => by rw [hN]; exact h.cell1
        go_wp2_with fail
        refine held_begin (fun V => V.cell? ⟨G, 0, none⟩ = some (.pointer (some ⟨L.g, 0, none⟩)) ∧ V.cell? ⟨G, 1, none⟩ = some (.int .i64 (N : Int))) (by kernel_rfl) ?_
        refine held_take 0 59 _ (.pointer (some ⟨G, 0, none⟩)) rfl rfl (by kernel_rfl) (by kernel_rfl) (by kernel_rfl) rfl hS0 (fun _ _ => rfl) ?_
        simp only [Act.put, List.setIfInBounds_toArray, List.set_cons_succ, List.set_cons_zero]
        refine held_take 1 60 _ (.pointer (some ⟨G, 0, none⟩)) rfl rfl (by kernel_rfl) (by kernel_rfl) (by kernel_rfl) rfl hS0 (fun _ _ => rfl) ?_
        simp only [Act.put, List.setIfInBounds_toArray, List.set_cons_succ, List.set_cons_zero]
        refine held_take 2 61 _ (.pointer (some ⟨G, 0, none⟩)) rfl rfl (by kernel_rfl) (by kernel_rfl) (by kernel_rfl) rfl hS0 (fun _ _ => rfl) ?_
        simp only [Act.put, List.setIfInBounds_toArray, List.set_cons_succ, List.set_cons_zero]
        refine held_take 3 62 _ (.pointer (some ⟨L.g, 0, none⟩)) rfl rfl (by kernel_rfl) (by kernel_rfl) (by kernel_rfl) rfl hS0 (fun V hV => exec_loadc 29 _ rfl _ _ rfl (load_one 29 (fun _ => by kernel_rfl) V _ _ _ hV.1)) ?_
        simp only [Act.put, List.setIfInBounds_toArray, List.set_cons_succ, List.set_cons_zero]
        refine held_take 4 63 _ (.pointer (some ⟨G, 0, none⟩)) rfl rfl (by kernel_rfl) (by kernel_rfl) (by kernel_rfl) rfl hS0 (fun _ _ => rfl) ?_
        simp only [Act.put, List.setIfInBounds_toArray, List.set_cons_succ, List.set_cons_zero]
        refine held_take 5 64 _ (.pointer (some ⟨G, 0, none⟩)) rfl rfl (by kernel_rfl) (by kernel_rfl) (by kernel_rfl) rfl hS0 (fun _ _ => rfl) ?_
        simp only [Act.put, List.setIfInBounds_toArray, List.set_cons_succ, List.set_cons_zero]
        refine held_take 6 65 _ (.pointer (some ⟨G, 1, none⟩)) rfl rfl (by kernel_rfl) (by kernel_rfl) (by kernel_rfl) rfl hS0 (fun _ _ => rfl) ?_
        simp only [Act.put, List.setIfInBounds_toArray, List.set_cons_succ, List.set_cons_zero]
        refine held_take 7 66 _ (.int .i64 (N : Int)) rfl rfl (by kernel_rfl) (by kernel_rfl) (by kernel_rfl) rfl hS0 (fun V hV => exec_loadc 3 _ rfl _ _ rfl (load_one 3 (fun _ => by kernel_rfl) V _ _ _ hV.2)) ?_
        simp only [Act.put, List.setIfInBounds_toArray, List.set_cons_succ, List.set_cons_zero]
        refine held_take 8 67 _ (.int .i64 (N1 : Int)) rfl rfl (by kernel_rfl) (by kernel_rfl) (by kernel_rfl) rfl hS0 (fun _ _ => exec_add7 _ _ _ rfl _ _ _ rfl rfl g1) ?_
        simp only [Act.put, List.setIfInBounds_toArray, List.set_cons_succ, List.set_cons_zero]
        refine held_take 9 68 _ (.int .i64 (N2 : Int)) rfl rfl (by kernel_rfl) (by kernel_rfl) (by kernel_rfl) rfl hS0 (fun _ _ => exec_remT _ _ _ rfl _ _ _ rfl rfl (by decide) g2) ?_
        simp only [Act.put, List.setIfInBounds_toArray, List.set_cons_succ, List.set_cons_zero]
        refine held_take 10 69 _ (.pointer (some ⟨G, 0, none⟩)) rfl rfl (by kernel_rfl) (by kernel_rfl) (by kernel_rfl) rfl hS0 (fun _ _ => rfl) ?_
        simp only [Act.put, List.setIfInBounds_toArray, List.set_cons_succ, List.set_cons_zero]
        refine held_take 11 70 _ (.pointer (some ⟨G, 0, none⟩)) rfl rfl (by kernel_rfl) (by kernel_rfl) (by kernel_rfl) rfl hS0 (fun _ _ => rfl) ?_
        simp only [Act.put, List.setIfInBounds_toArray, List.set_cons_succ, List.set_cons_zero]
        refine held_take 12 71 _ (.pointer (some ⟨G, 1, none⟩)) rfl rfl (by kernel_rfl) (by kernel_rfl) (by kernel_rfl) rfl hS0 (fun _ _ => rfl) ?_
        simp only [Act.put, List.setIfInBounds_toArray, List.set_cons_succ, List.set_cons_zero]
        refine held_take 13 72 _ (.int .i64 (N : Int)) rfl rfl (by kernel_rfl) (by kernel_rfl) (by kernel_rfl) rfl hS0 (fun V hV => exec_loadc 3 _ rfl _ _ rfl (load_one 3 (fun _ => by kernel_rfl) V _ _ _ hV.2)) ?_
        simp only [Act.put, List.setIfInBounds_toArray, List.set_cons_succ, List.set_cons_zero]
        refine held_take 14 73 _ (.int .i64 (N1 : Int)) rfl rfl (by kernel_rfl) (by kernel_rfl) (by kernel_rfl) rfl hS0 (fun _ _ => exec_add7 _ _ _ rfl _ _ _ rfl rfl g1) ?_
        simp only [Act.put, List.setIfInBounds_toArray, List.set_cons_succ, List.set_cons_zero]
        refine held_take 15 74 _ (.int .i64 (gen : Int)) rfl rfl (by kernel_rfl) (by kernel_rfl) (by kernel_rfl) rfl hS0 (fun _ _ => rfl) ?_
        simp only [Act.put, List.setIfInBounds_toArray, List.set_cons_succ, List.set_cons_zero]
        refine held_take 16 75 _ (.slice ax b.length cx) rfl rfl (by kernel_rfl) (by kernel_rfl) (by kernel_rfl) rfl hS0 (fun _ _ => rfl) ?_
        simp only [Act.put, List.setIfInBounds_toArray, List.set_cons_succ, List.set_cons_zero]
        refine held_take 17 76 _ (.int .i64 (b.length : Int)) rfl rfl (by kernel_rfl) (by kernel_rfl) (by kernel_rfl) rfl hS0 (fun _ _ => exec_len _ rfl _ _ _ rfl) ?_
        simp only [Act.put, List.setIfInBounds_toArray, List.set_cons_succ, List.set_cons_zero]
        refine held_all1 18 (by kernel_rfl) (op_call 18 77 _ 86 #[.int .i64 (N1 : Int), .int .i64 (gen : Int), .int .i64 (b.length : Int)] rfl rfl rfl (exec_three7 86 _ _ _ _ rfl _ _ _ rfl rfl rfl Tryz.call86) ((head7_any N1 gen b.length _ (by omega) (by omega) (by omega)).mono ?_))
        rintro e W3 ⟨vh, rfl, ho3, hb3⟩
        have hB3 := hBd.after hb3
        have hS3 : W3.cell? ⟨G, 0, none⟩ = some (.pointer (some ⟨L.g, 0, none⟩)) ∧ W3.cell? ⟨G, 1, none⟩ = some (.int .i64 (N : Int)) := ⟨hB3.l.cell0, hc1 hB3.l⟩
        refine ⟨_, rfl, hS3, ?_⟩
        simp only [Act.put, List.setIfInBounds_toArray, List.set_cons_succ, List.set_cons_zero]
        refine held_all1 19 (by kernel_rfl) (op_call 19 78 _ 40 #[.pointer (some ⟨L.g, 0, none⟩), .int .i64 (N2 : Int), vh] rfl rfl rfl (exec_three7 40 _ _ _ _ rfl _ _ _ rfl rfl rfl Tryz.call40) ((refWrite_any L t1 _ vh (headB N1 gen b.length) W3 hB3.d ho3.seg (by rw [headB_len]; decide) (fun _ q hq e => by have := (ho3.blocks q hq).1; have := hBd.d.lt q e; omega)).mono ?_))
        rintro e W4 ⟨rfl, hD4, hc4⟩
        have hl4 := hB3.l.chg hc4 hoff (fun _ h => .inr h)
        have hS4 : W4.cell? ⟨G, 0, none⟩ = some (.pointer (some ⟨L.g, 0, none⟩)) ∧ W4.cell? ⟨G, 1, none⟩ = some (.int .i64 (N : Int)) := ⟨hl4.cell0, hc1 hl4⟩
        refine ⟨_, rfl, hS4, ?_⟩
        simp only [Act.put, List.setIfInBounds_toArray, List.set_cons_succ, List.set_cons_zero]
        refine held_all1 20 (by kernel_rfl) (op_value 20 12 _ (.int .i64 (writeS t1 (N2 : Int) (headB N1 gen b.length)).1) W4 rfl rfl rfl rfl ⟨hS4, ?_⟩)
        simp only [Act.put, List.setIfInBounds_toArray, List.set_cons_succ, List.set_cons_zero]
        refine wpAnyH_done (by kernel_rfl) ?_ _
        refine NoPanic.normal ?_
        have hB4 : RBoth W4 G L (writeS t1 (N2 : Int) (headB N1 gen b.length)).2 l := ⟨hD4, hl4⟩
        have hC4 : Chg L.T w W4 := (hC1.drew.trans (S' := L.T) (Chg.of_below hb3 (Nat.le_refl _)) (fun _ _ h => h)).trans hc4 (fun _ _ h => h)
        clear hD4 hl4 hc4 hb3 hS3 hS4 hB3 ho3 hBd hS0 hB1 hC1
        generalize writeS t1 (N2 : Int) (headB N1 gen b.length) = Y2 at *
        obtain ⟨E2, t2⟩ := Y2
        dsimp only at HR3 hB4
        by_cases hE2 : E2 = 0
        · have b2 : (E2 == 0) = true := by rw [hE2]; rfl
          have HR4 : Hid (R = syncS t2) := by show _ = _; rw [HR3.out, if_neg (fun h => h hE2)]
          have HS2 : Hid (Calls Tryz.prog 42 #[.pointer (some ⟨L.g, 0, none⟩)] W4 fun e w' => e = .returned (.int .i64 (syncS t2).1) ∧ RDisk w' L (syncS t2).2 ∧ Chg L.T W4 w') := refSync_any L t2 W4 hB4.d
          generalize syncS t2 = Y3 at *
          obtain ⟨E3, t3⟩ := Y3
          dsimp only at HS2
          have c0 := hB4.l.cell0
          clear HR3 b1
          go_wp2_with fail
          refine HS2.out.mono ?_
          rintro e W5 ⟨rfl, hD5, hc5⟩
          have hB5 : RBoth W5 G L t3 l := ⟨hD5, hB4.l.chg hc5 hoff (fun _ h => .inr h)⟩
          have hC5 : Chg L.T w W5 := hC4.trans hc5 (fun _ _ h => h)
          clear HS2 c0 hD5 hc5 hB4 hC4 b2
          by_cases hE3 : E3 = 0
          · have b3 : (E3 == 0) = true := by rw [hE3]; rfl
            obtain ⟨bv, hx1, hs1⟩ := hB5.l.head
            have hb1 := hx1.cell (j := 1) rfl
            have f1 := hx1.frozen 1
            have hx2 := hx1.set 1 (.int .i64 (N1 : Int))
            have hcN : Chg (fun q => q = G) W5 (W5.setCell ⟨G, 1, none⟩ (.int .i64 (N1 : Int))) := (Chg.refl (fun q => q = G) W5).setCell G 1 _ (fun _ => rfl)
            have HB : Hid (RBoth (W5.setCell ⟨G, 1, none⟩ (.int .i64 (N1 : Int))) G L t3 { l with n := l.n + 1 }) := ⟨hB5.d.chgG hB5.l hcN, ⟨⟨bv, hx2.of_eq (by rw [hN1, hN]; rfl), hs1.chg (hcN.weaken (fun _ h => .inl h))⟩, hB5.l.off, hn, hB5.l.gen, hB5.l.b, hB5.l.sure⟩⟩
            have HL2 : Hid (l2 = { l with n := l.n + 1 }) := by show _ = _; rw [HL.out, HR4.out, if_pos hE3]
            have HCN : Hid (Chg (bothG G L) w (W5.setCell ⟨G, 1, none⟩ (.int .i64 (N1 : Int)))) := (hC5.weaken (fun _ h => .inr h)).trans hcN (fun _ _ h => .inl h)
            have hz : (N1 : Int) = (N : Int) + 1 := by omega
            have HE : Hid (E3 = 0) := hE3
            rw [← hN] at hb1
            rw [hz] at HCN HB
            clear hx1 hs1 hx2 hcN hN
            go_wp2_with fail
            go_ret
            refine ⟨?_, ?_, HCN.out, fun j hj => ?_⟩
            · rw [HR4.out, HE.out]; rfl
            · rw [HR4.out, HL2.out]; exact HB.out
            · rw [World.cell?_setCell_other W5 _ _ _ (by intro e; injection e with _ e _; exact hj e.symm)]; exact hC5.cellG hoff hlG j
          · have b3 : (E3 == 0) = false := by simp [hE3]
            have HL2 : Hid (l2 = l) := by show _ = _; rw [HL.out, HR4.out, if_neg hE3]
            go_wp2_with fail
            go_ret
            refine ⟨?_, ?_, hC5.weaken (fun _ h => .inr h), fun j _ => hC5.cellG hoff hlG j⟩
            · rw [HR4.out]; rfl
            · rw [HR4.out, HL2.out]; exact hB5
        · have b2 : (E2 == 0) = false := by simp [hE2]
          have HN : Hid (R = (E2, t2)) := by show _ = _; rw [HR3.out, if_pos hE2]
          have HL2 : Hid (l2 = l) := by show _ = _; rw [HL.out, HN.out, if_neg hE2]
          go_wp2_with fail
          go_ret
          refine ⟨?_, ?_, hC4.weaken (fun _ h => .inr h), fun j _ => hC4.cellG hoff hlG j⟩
          · rw [HN.out]; rfl
          · rw [HN.out, HL2.out]; exact hB4
      · have b1 : (E1 == 0) = false := by simp [hE]
        have HN : Hid (R = (E1, t1)) := by show _ = _; rw [HR2.out, if_pos hE]
        have HL2 : Hid (l2 = l) := by show _ = _; rw [HL.out, HN.out, if_neg hE]
        go_wp2_with fail
        go_ret
        refine ⟨?_, ?_, hC1.weaken (fun _ h => .inr h), fun j _ => hC1.cellG hoff hlG j⟩
        · rw [HN.out]; rfl
        · rw [HN.out, HL2.out]; exact hB1
end Go.Proofs.YtojgeahablphbaaGreat
