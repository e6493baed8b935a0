/-
  What is proved here: the document's disk: writing and syncing.
  Conditions: the disk lies in memory.
-/
import Derived.Test.YtojgeahablphbaaJRefDiskPlan
import Derived.Test.YtojgeahablphbaaJHeldOps
import Derived.Test.YtojgeahablphbaaJAppZeros
namespace Go.Proofs.Ytojgeahablphbaa
open Go.RowKit

theorem index_byteses (b off len c I : Nat) (w : World) (h : I < len) : (Instr.indexAt 39 (.slice (some ⟨b, off, none⟩) len c) (.int .i64 (I : Int))).run Try.prog w = .ok (.pointer (some ⟨b, off + I, none⟩)) w := by
  have hs : ∀ w, (sizeOf 22).run Try.prog w = .ok 1 w := fun w => by kernel_rfl
  have hi : (0 : Int) ≤ (I : Int) ∧ (I : Int) < (len : Int) := by omega
  simp [Instr.indexAt, asIntOf, run_underlying Try.underlying39, hs, hi, Addr.add_mid]
  intro h2
  omega

set_option maxRecDepth 100000 in
set_option maxHeartbeats 2000000 in
theorem refWrite_any (L : RLay) (s : DS) (k : Int) (x : Value) (bs : List UInt8) (w : World) (hD : RDisk w L s) (hS : Seg w x bs) (hm : bs.length ≤ 1000000) (hx : 0 < bs.length → ∀ q, x.ownBlock = some q → ¬ L.T q) :
    Calls Try.prog 9 #[.pointer (some ⟨L.g, 0, none⟩), .int .i64 k, x] w fun e w' => e = .returned (.int .i64 (writeS s k bs).1) ∧ RDisk w' L (writeS s k bs).2 ∧ Chg L.T w w' := by
  obtain ⟨xv, hh, hx2⟩ := hD.head
  have hnl := hD.ok.now
  unfold RLay.head at hh
  have c0 := hh.cell (j := 0) rfl
  obtain ⟨ab, cb, rfl⟩ := Seg.shapeD hS
  obtain ⟨R, hR⟩ : ∃ R, R = writeS s k bs := ⟨_, rfl⟩
  rw [← hR]
  unfold writeS at hR
  rw [hnl] at hR
  by_cases hbad : k < 0 ∨ (L.n : Int) ≤ k ∨ 128 < bs.length
  · rw [if_pos hbad] at hR
    have HR : Hid (R = (1, s)) := hR
    clear hR
    by_cases h0 : k < 0
    · clear hbad
      go_enter Try.func9, Try.ntmps9
      go_wp2
      go_ret
      rw [HR.out]
      exact ⟨rfl, hD, Chg.refl _ _⟩
    by_cases h1 : (L.n : Int) ≤ k
    · clear hbad
      go_enter Try.func9, Try.ntmps9
      go_wp2
      go_ret
      rw [HR.out]
      exact ⟨rfl, hD, Chg.refl _ _⟩
    · have h2 : (128 : Int) < (bs.length : Int) := by omega
      clear hbad
      go_enter Try.func9, Try.ntmps9
      go_wp2
      go_ret
      rw [HR.out]
      exact ⟨rfl, hD, Chg.refl _ _⟩
  · rw [if_neg hbad] at hR
    obtain ⟨m, rfl⟩ : ∃ m : Nat, k = (m : Int) := ⟨k.toNat, by omega⟩
    have h0 : ¬ (m : Int) < 0 := by omega
    have h1 : ¬ (L.n : Int) ≤ (m : Int) := by omega
    have h1' : (m : Int) < (L.n : Int) := by omega
    have h2 : ¬ (128 : Int) < (bs.length : Int) := by omega
    have HM : Hid (Calls Try.prog 18 #[.pointer (some ⟨L.g, 0, none⟩)] w fun e w' => e = .returned (.int .i64 (mayS s).1) ∧ RDisk w' L (mayS s).2 ∧ Chg (fun b => b = L.g) w w') := refMay_any L s w hD
    have hmx : m < L.n := by omega
    have hbx : bs.length ≤ 128 := by omega
    clear hbad
    generalize mayS s = M at *
    obtain ⟨e1, s1⟩ := M
    by_cases he : e1 ≠ 0
    · have HR : Hid (R = (e1, s1)) := by show _ = _; rw [hR, if_pos he]
      have he' : (e1 == 0) = false := by simpa using he
      clear hR he
      go_enter Try.func9, Try.ntmps9
      go_wp2_with (go_at_call 18; refine HM.out.mono ?_; rintro e w1 ⟨rfl, hD1, hc1⟩)
      go_ret
      rw [HR.out]
      exact ⟨rfl, hD1, hc1.weaken (fun _ h => .inl h)⟩
    · obtain rfl : e1 = 0 := by omega
      have HR : Hid (R = (0, putS s1 m bs)) := by show _ = _; rw [hR, if_neg he]; rfl
      clear hR he
      go_enter Try.func9, Try.ntmps9
      go_wp2_with (go_at_call 18; refine HM.out.mono ?_; rintro e w1 ⟨rfl, hD1, hc1⟩)
      have hT1 := hD1.ltU
      have hlay := hD1.lay
      obtain ⟨xv1, hh1, hx1⟩ := hD1.head
      obtain ⟨nv, hn, hn2⟩ := hD1.now
      have hnl1 := hD1.ok.now
      have hS1 : Seg w1 (.slice ab bs.length cb) bs := hS.chg hc1 (fun h0 q hq e => hx h0 q hq (.inl e))
      unfold RLay.head at hh1
      have hcd : w1.drew.cell? ⟨L.g, 0, none⟩ = some (.slice (some ⟨L.bn, 0, none⟩) L.n L.cn) := hh1.cell (j := 0) rfl
      obtain ⟨ov, hov, _⟩ := hn2.at (k := m) (by omega)
      have hwA : Below w1.heap.size w1 (w1.drew.alloc (.cells #[] 5)) := (Below.refl _ _).drew.alloc (Nat.le_refl _) _
      have hcdA : (w1.drew.alloc (.cells #[] 5)).cell? ⟨L.g, 0, none⟩ = some (.slice (some ⟨L.bn, 0, none⟩) L.n L.cn) := (hh1.below hwA hh1.lt).cell (j := 0) rfl
      obtain ⟨v2, w2, hr2, ho2, hg2, hv2⟩ := app_bytes (w1.drew.alloc (.cells #[] 5)) w1.heap.size _ [] (own_emptyD w1.drew w1.heap.size w1.heap.size rfl (Nat.le_refl _)) (.slice ab bs.length cb) bs (hS1.below hwA (Nat.le_refl _)) (by simp; omega) (by simp)
      rw [List.nil_append] at ho2
      have hwB : Below w1.heap.size w1 w2 := below_grown hwA hg2 hwA.size (fun q hq => by have h2 : w1.heap.size = q := Option.some.inj hq; omega)
      have hcdB : w2.cell? ⟨L.g, 0, none⟩ = some (.slice (some ⟨L.bn, 0, none⟩) L.n L.cn) := (hh1.below hwB hh1.lt).cell (j := 0) rfl
      obtain ⟨v3, w3, hr3, ho3, hg3, hv3⟩ := app_zeros w2 w1.heap.size v2 bs ho2 (128 - bs.length) (by omega) (by omega) hwB.size
      have hsub : (128 : Int) - (bs.length : Int) = ((128 - bs.length : Nat) : Int) := by omega
      have hwC : Below w1.heap.size w1 w3 := below_grown hwB hg3 hwB.size (fun q hq => (ho2.blocks q hq).1)
      have hcdC : w3.cell? ⟨L.g, 0, none⟩ = some (.slice (some ⟨L.bn, 0, none⟩) L.n L.cn) := (hh1.below hwC hh1.lt).cell (j := 0) rfl
      have hD3 := hD1.after hwC
      obtain ⟨a3, c3, hv3e⟩ := Seg.shapeD ho3.seg
      have hpl : (bs ++ noughts (128 - bs.length)).length = 128 := padS_length hbx
      rw [hpl] at hv3e
      subst hv3e
      have hsa3 : SegA w3 L.U (.slice a3 128 c3) (padS bs) := ho3.segA hT1
      have hn3 := hn.chg (Chg.of_below (S := fun _ => False) hwC (Nat.le_refl _)) id
      have dc := hn3.cell hov
      have df := hn3.frozen m
      have hidx := index_byteses L.bn 0 L.n L.cn m w3 hmx
      rw [Nat.zero_add] at hidx
      have hc3 : Chg L.T w1 w3 := Chg.of_below hwC (Nat.le_refl _)
      have hh3 := hh1.below hwC hh1.lt
      have hh4 := hh3.setOther ⟨L.bn, m, none⟩ (.slice a3 128 c3) hlay.gn
      have g2 := hh4.cell (j := 2) rfl
      have hdl : m < (s1.dirt.map Value.bool).length := by rw [List.length_map, hD1.ok.dirt]; exact hmx
      have hd4 := hD3.dirt.chg ((Chg.refl (fun q => q = L.bn) w3).setCell L.bn m (.slice a3 128 c3) (fun _ => rfl)) (fun e => hlay.nd e.symm)
      have dd := hd4.cell (List.getElem?_eq_getElem hdl)
      have fd := hd4.frozen m
      have hcdD : (w3.setCell ⟨L.bn, m, none⟩ (.slice a3 128 c3)).cell? ⟨L.g, 0, none⟩ = some (.slice (some ⟨L.bn, 0, none⟩) L.n L.cn) := hh4.cell (j := 0) rfl
      generalize (s1.dirt.map Value.bool)[m] = oldd at dd
      refine held_begin (fun W => W.cell? ⟨L.g, 0, none⟩ = some (.slice (some ⟨L.bn, 0, none⟩) L.n L.cn)) (by kernel_rfl) ?_
      refine held_take 0 29 _ (.pointer (some ⟨L.g, 0, none⟩)) rfl rfl (by kernel_rfl) (by kernel_rfl) (by kernel_rfl) rfl hcd (fun _ _ => rfl) ?_
      simp only [Act.put, List.setIfInBounds_toArray, List.set_cons_succ, List.set_cons_zero]
      refine held_take 1 30 _ (.pointer (some ⟨L.g, 0, none⟩)) rfl rfl (by kernel_rfl) (by kernel_rfl) (by kernel_rfl) rfl hcd (fun _ _ => rfl) ?_
      simp only [Act.put, List.setIfInBounds_toArray, List.set_cons_succ, List.set_cons_zero]
      refine held_take 2 31 _ (.pointer (some ⟨L.g, 0, none⟩)) rfl rfl (by kernel_rfl) (by kernel_rfl) (by kernel_rfl) rfl hcd (fun _ _ => rfl) ?_
      simp only [Act.put, List.setIfInBounds_toArray, List.set_cons_succ, List.set_cons_zero]
      refine held_take 3 32 _ (.slice (some ⟨L.bn, 0, none⟩) L.n L.cn) rfl rfl (by kernel_rfl) (by kernel_rfl) (by kernel_rfl) rfl hcd (fun W hW => exec_loadc 39 _ rfl _ _ rfl (load_one 39 (fun _ => by kernel_rfl) W _ _ _ hW)) ?_
      simp only [Act.put, List.setIfInBounds_toArray, List.set_cons_succ, List.set_cons_zero]
      refine held_take 4 33 _ (.int .i64 (m : Int)) rfl rfl (by kernel_rfl) (by kernel_rfl) (by kernel_rfl) rfl hcd (fun _ _ => rfl) ?_
      simp only [Act.put, List.setIfInBounds_toArray, List.set_cons_succ, List.set_cons_zero]
      refine held_take 6 35 _ (.slice ab bs.length cb) rfl rfl (by kernel_rfl) (by kernel_rfl) (by kernel_rfl) rfl hcd (fun _ _ => rfl) ?_
      simp only [Act.put, List.setIfInBounds_toArray, List.set_cons_succ, List.set_cons_zero]
      refine held_take 8 37 _ (.slice ab bs.length cb) rfl rfl (by kernel_rfl) (by kernel_rfl) (by kernel_rfl) rfl hcd (fun _ _ => rfl) ?_
      simp only [Act.put, List.setIfInBounds_toArray, List.set_cons_succ, List.set_cons_zero]
      refine held_take 9 38 _ (.int .i64 (bs.length : Int)) rfl rfl (by kernel_rfl) (by kernel_rfl) (by kernel_rfl) rfl hcd (fun _ _ => exec_len _ rfl _ _ _ rfl) ?_
      simp only [Act.put, List.setIfInBounds_toArray, List.set_cons_succ, List.set_cons_zero]
      refine held_take 10 39 _ (.int .i64 (128 - (bs.length : Int))) rfl rfl (by kernel_rfl) (by kernel_rfl) (by kernel_rfl) rfl hcd (fun _ _ => exec_subi 3 _ _ rfl _ _ rfl rfl (by omega) (by omega)) ?_
      simp only [Act.put, List.setIfInBounds_toArray, List.set_cons_succ, List.set_cons_zero]
      refine held_all1 5 (by kernel_rfl) (op_value 5 34 _ _ _ rfl rfl rfl (exec_empty rfl) ⟨hcdA, ?_⟩)
      simp only [Act.put, List.setIfInBounds_toArray, List.set_cons_succ, List.set_cons_zero]
      refine held_all1 7 (by kernel_rfl) (op_value 7 36 _ v2 w2 rfl rfl rfl (exec_app _ _ _ _ rfl _ _ _ rfl rfl hr2) ⟨hcdB, ?_⟩)
      simp only [Act.put, List.setIfInBounds_toArray, List.set_cons_succ, List.set_cons_zero]
      refine held_all1 11 (by kernel_rfl) (op_value 11 40 _ (.slice a3 128 c3) w3 rfl rfl rfl (exec_app _ _ _ _ rfl _ _ _ rfl (by rw [← hsub]; rfl) hr3) ⟨hcdC, ?_⟩)
      simp only [Act.put, List.setIfInBounds_toArray, List.set_cons_succ, List.set_cons_zero]
      refine held_all1 12 (by kernel_rfl) (op_value 12 41 _ _ w3 rfl rfl rfl (exec_indexat _ _ _ rfl _ _ _ rfl rfl hidx) ⟨hcdC, ?_⟩)
      simp only [Act.put, List.setIfInBounds_toArray, List.set_cons_succ, List.set_cons_zero]
      refine held_all1 13 (by kernel_rfl) (op_skip 13 _ _ rfl rfl rfl (exec_stores _ _ rfl L.bn m _ _ _ _ rfl rfl dc df) ⟨hcdD, ?_⟩)
      refine wpAnyH_done (by kernel_rfl) ?_ _
      refine NoPanic.normal ?_
      go_wp2
      go_ret
      rw [HR.out]
      have hcE : Chg L.T w3 (w3.setCell ⟨L.bn, m, none⟩ (.slice a3 128 c3)) := (Chg.refl _ w3).setCell L.bn m _ (fun _ => .inr (.inl rfl))
      have hcF : Chg L.T w3 ((w3.setCell ⟨L.bn, m, none⟩ (.slice a3 128 c3)).setCell ⟨L.bd, m, none⟩ (.bool true)) := hcE.setCell L.bd m _ (fun _ => .inr (.inr (.inr rfl)))
      have hcG := hc3.trans (S' := L.T) hcF (fun _ _ h => h)
      have hcD : Chg (fun q => q = L.bd) (w3.setCell ⟨L.bn, m, none⟩ (.slice a3 128 c3)) ((w3.setCell ⟨L.bn, m, none⟩ (.slice a3 128 c3)).setCell ⟨L.bd, m, none⟩ (.bool true)) := (Chg.refl _ _).setCell L.bd m _ (fun _ => rfl)
      have hcN : Chg (fun q => q = L.bn ∨ q = L.bd) w3 ((w3.setCell ⟨L.bn, m, none⟩ (.slice a3 128 c3)).setCell ⟨L.bd, m, none⟩ (.bool true)) := ((Chg.refl _ w3).setCell L.bn m _ (fun _ => .inl rfl)).setCell L.bd m _ (fun _ => .inr rfl)
      obtain ⟨sv, hs, hs2⟩ := hD3.sure
      refine ⟨rfl, ⟨hD1.ok.put m bs hbx, hlay, ⟨xv1, hh4.setOther _ _ hlay.gd, hx1.chgT hcG⟩, ⟨nv.set m (.slice a3 128 c3), (hn3.set m _).chg hcD (fun e => hlay.nd e), (hn2.chgT hcG).set m _ _ (hsa3.chgT hcF)⟩, ⟨sv, hs.chg hcN (fun e => by rcases e with e | e; exact hlay.ns e.symm; exact hlay.sd e), hs2.chgT hcF⟩, ?_, fun q hq => Nat.lt_of_lt_of_le (hD1.av q hq) hcG.size⟩, (hc1.weaken (fun _ h => .inl h)).trans (S' := L.T) hcG (fun _ _ h => h)⟩
      have := hd4.set m (.bool true)
      rw [← List.map_set] at this
      exact this
end Go.Proofs.Ytojgeahablphbaa
