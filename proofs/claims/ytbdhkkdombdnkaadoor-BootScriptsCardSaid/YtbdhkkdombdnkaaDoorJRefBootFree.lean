/-
  What is proved here: how the document's keeper lies in memory; whether a place is free; what breaks it.
  Conditions: the keeper and its flash lie in memory, and the place is there.
-/
import Derived.Test.YtbdhkkdombdnkaaDoorJRefBootTold
import Derived.Test.YtbdhkkdombdnkaaDoorJFlashI
import Derived.Test.YtbdhkkdombdnkaaDoorJBootPlaces
namespace Go.Proofs.YtbdhkkdombdnkaaDoor
open Go.RowKit

def kpR (L : FLay) (j : Nat) (k : KS) : Array Value := #[.pointer (some ⟨L.g, 0, none⟩), .int .i64 (j : Int), .int .i64 (k.gen : Int), .int .i64 k.r.active, .int .i64 k.r.trial, .int .i64 k.r.tries, .int .i64 k.r.v0, .int .i64 k.r.v1, .int .i64 (k.wh : Int), .int .i64 k.la, .bool k.br]
/-- What a look at a place tells. -/
def lookC (s : FS) (j i : Nat) : List UInt8 := if s.down then [] else cellB (blkB s j) i
theorem cell_len9 {s : FS} {n j i : Nat} (hs : s.ok n) (h : j < n) (hi : i < 32) : (cellB (blkB s j) i).length = 32 := by
  have hb := blkB_len hs h
  unfold cellB
  rw [List.length_take, List.length_drop, hb]
  omega
theorem read_cell {s : FS} {n j wh i : Nat} (hs : s.ok n) (h : j + wh < n) (hi : i < 32) : readF s (((j : Int) + (wh : Int)) * 1024 + (i : Int) * 32) 32 = (lookC s (j + wh) i, lookE s) := by
  have hl := hs.b
  unfold readF lookC lookE
  by_cases hd : s.down = true
  · rw [if_pos hd, if_pos hd, if_pos hd]
  · rw [if_neg hd, if_neg hd, if_neg hd, there9 (by decide) (by decide) (by omega) (by omega), if_neg (by decide)]
    unfold cellB blkB
    rw [show (((j : Int) + (wh : Int)) * 1024 + (i : Int) * 32).toNat = 1024 * (j + wh) + 32 * i by omega, List.drop_take, List.take_take, List.drop_drop]
    congr 2
    all_goals omega
def freeC (s : FS) (j i : Nat) : Bool := decide ((lookC s j i).length = 32) && (lookC s j i).all (· == 255)
set_option maxRecDepth 100000 in
set_option maxHeartbeats 2000000 in
theorem rfree9_any (L : FLay) (s : FS) (g j wh i : Nat) (k : KS) (w : World) (hK : Blk w g 50 (kpR L j k)) (hD : RFlash w L s) (hj : j + wh < L.n) (hi : i < 32) :
    Calls Tryd.prog 41 #[.pointer (some ⟨g, 0, none⟩), .int .i64 (wh : Int), .int .i64 (i : Int)] w fun e w' => e = .returned (.bool (freeC s (j + wh) i)) ∧ Below w.heap.size w w' := by
  have hcap := hD.ok.cap
  have HR : Hid (∀ W, RFlash W L s → Calls Tryd.prog 24 #[.pointer (some ⟨L.g, 0, none⟩), .int .i64 (((j : Int) + (wh : Int)) * 1024 + (i : Int) * 32), .int .i64 32] W fun e w' => ∃ v, e = .returned (.tuple #[v, .int .i64 (lookE s)]) ∧ Own w' W.heap.size v (lookC s (j + wh) i) ∧ Below W.heap.size W w') := fun W hW => by
    have := ref6Read_any L s (((j : Int) + (wh : Int)) * 1024 + (i : Int) * 32) 32 W hW
    rw [read_cell hD.ok hj hi] at this
    exact this
  have HC : Hid (∀ V, Below w.heap.size w V → V.cell? ⟨g, 0, none⟩ = some (.pointer (some ⟨L.g, 0, none⟩)) ∧ V.cell? ⟨g, 1, none⟩ = some (.int .i64 (j : Int))) := fun V hV => ⟨(hK.below hV hK.lt).cell (j := 0) rfl, (hK.below hV hK.lt).cell (j := 1) rfl⟩
  have hS0 := HC.out w.drew (Below.refl _ _).drew
  have HD : Hid (RFlash w.drew L s) := hD.after (Below.refl _ _).drew
  have hlc : (lookC s (j + wh) i).length ≤ 32 := by
    unfold lookC
    split
    · exact Nat.zero_le _
    · rw [cell_len9 hD.ok hj hi]; exact Nat.le_refl _
  have HF : Hid (freeC s (j + wh) i = (decide ((lookC s (j + wh) i).length = 32) && (lookC s (j + wh) i).all (· == 255))) := rfl
  generalize freeC s (j + wh) i = FC at *
  generalize lookC s (j + wh) i = C at *
  clear hK hD
  go_enter Tryd.func41, Tryd.ntmps41
  go_wp2_with fail
  refine held_begin (fun V => V.cell? ⟨g, 0, none⟩ = some (.pointer (some ⟨L.g, 0, none⟩)) ∧ V.cell? ⟨g, 1, none⟩ = some (.int .i64 (j : Int))) (by kernel_rfl) ?_
  refine held_take 0 11 _ (.pointer (some ⟨g, 0, none⟩)) rfl rfl (by kernel_rfl) (by kernel_rfl) (by kernel_rfl) rfl hS0 (fun _ _ => rfl) ?_
  simp only [Act.put, List.setIfInBounds_toArray, List.set_cons_succ, List.set_cons_zero]
  refine held_take 1 12 _ (.pointer (some ⟨g, 0, none⟩)) rfl rfl (by kernel_rfl) (by kernel_rfl) (by kernel_rfl) rfl hS0 (fun _ _ => rfl) ?_
  simp only [Act.put, List.setIfInBounds_toArray, List.set_cons_succ, List.set_cons_zero]
  refine held_take 2 13 _ (.pointer (some ⟨g, 0, none⟩)) rfl rfl (by kernel_rfl) (by kernel_rfl) (by kernel_rfl) rfl hS0 (fun _ _ => rfl) ?_
  simp only [Act.put, List.setIfInBounds_toArray, List.set_cons_succ, List.set_cons_zero]
  refine held_take 3 14 _ (.pointer (some ⟨L.g, 0, none⟩)) rfl rfl (by kernel_rfl) (by kernel_rfl) (by kernel_rfl) rfl hS0 (fun V hV => exec_loadc 29 _ rfl _ _ rfl (load_one 29 (fun _ => by kernel_rfl) V _ _ _ hV.1)) ?_
  simp only [Act.put, List.setIfInBounds_toArray, List.set_cons_succ, List.set_cons_zero]
  refine held_take 4 15 _ (.pointer (some ⟨g, 0, none⟩)) rfl rfl (by kernel_rfl) (by kernel_rfl) (by kernel_rfl) rfl hS0 (fun _ _ => rfl) ?_
  simp only [Act.put, List.setIfInBounds_toArray, List.set_cons_succ, List.set_cons_zero]
  refine held_take 5 16 _ (.pointer (some ⟨g, 0, none⟩)) rfl rfl (by kernel_rfl) (by kernel_rfl) (by kernel_rfl) rfl hS0 (fun _ _ => rfl) ?_
  simp only [Act.put, List.setIfInBounds_toArray, List.set_cons_succ, List.set_cons_zero]
  refine held_take 6 17 _ (.pointer (some ⟨g, 1, none⟩)) rfl rfl (by kernel_rfl) (by kernel_rfl) (by kernel_rfl) rfl hS0 (fun _ _ => rfl) ?_
  simp only [Act.put, List.setIfInBounds_toArray, List.set_cons_succ, List.set_cons_zero]
  refine held_take 7 18 _ (.int .i64 (j : Int)) rfl rfl (by kernel_rfl) (by kernel_rfl) (by kernel_rfl) rfl hS0 (fun V hV => exec_loadc 3 _ rfl _ _ rfl (load_one 3 (fun _ => by kernel_rfl) V _ _ _ hV.2)) ?_
  simp only [Act.put, List.setIfInBounds_toArray, List.set_cons_succ, List.set_cons_zero]
  refine held_take 8 19 _ (.int .i64 (wh : Int)) rfl rfl (by kernel_rfl) (by kernel_rfl) (by kernel_rfl) rfl hS0 (fun _ _ => rfl) ?_
  simp only [Act.put, List.setIfInBounds_toArray, List.set_cons_succ, List.set_cons_zero]
  refine held_take 9 20 _ (.int .i64 ((j : Int) + (wh : Int))) rfl rfl (by kernel_rfl) (by kernel_rfl) (by kernel_rfl) rfl hS0 (fun V _ => exec_add9 3 _ _ rfl (j : Int) (wh : Int) rfl rfl (by omega) (by omega)) ?_
  simp only [Act.put, List.setIfInBounds_toArray, List.set_cons_succ, List.set_cons_zero]
  refine held_take 10 21 _ (.int .i64 (((j : Int) + (wh : Int)) * 1024)) rfl rfl (by kernel_rfl) (by kernel_rfl) (by kernel_rfl) rfl hS0 (fun V _ => exec_mul9 3 _ _ rfl ((j : Int) + (wh : Int)) 1024 rfl rfl (by omega) (by omega)) ?_
  simp only [Act.put, List.setIfInBounds_toArray, List.set_cons_succ, List.set_cons_zero]
  refine held_take 11 22 _ (.int .i64 (i : Int)) rfl rfl (by kernel_rfl) (by kernel_rfl) (by kernel_rfl) rfl hS0 (fun _ _ => rfl) ?_
  simp only [Act.put, List.setIfInBounds_toArray, List.set_cons_succ, List.set_cons_zero]
  refine held_take 12 23 _ (.int .i64 ((i : Int) * 32)) rfl rfl (by kernel_rfl) (by kernel_rfl) (by kernel_rfl) rfl hS0 (fun V _ => exec_mul9 3 _ _ rfl (i : Int) 32 rfl rfl (by omega) (by omega)) ?_
  simp only [Act.put, List.setIfInBounds_toArray, List.set_cons_succ, List.set_cons_zero]
  refine held_take 13 24 _ (.int .i64 (((j : Int) + (wh : Int)) * 1024 + (i : Int) * 32)) rfl rfl (by kernel_rfl) (by kernel_rfl) (by kernel_rfl) rfl hS0 (fun V _ => exec_add9 3 _ _ rfl (((j : Int) + (wh : Int)) * 1024) ((i : Int) * 32) rfl rfl (by omega) (by omega)) ?_
  simp only [Act.put, List.setIfInBounds_toArray, List.set_cons_succ, List.set_cons_zero]
  refine held_all1 14 (by kernel_rfl) (op_call 14 25 _ 24 #[.pointer (some ⟨L.g, 0, none⟩), .int .i64 (((j : Int) + (wh : Int)) * 1024 + (i : Int) * 32), .int .i64 32] rfl rfl rfl (exec_three8 24 _ _ _ _ rfl _ _ _ rfl rfl rfl Tryd.call24) ((HR.out _ HD.out).mono ?_))
  rintro e W1 ⟨v1, rfl, ho1, hb1⟩
  have hB1 : Below w.heap.size w W1 := ((Below.refl w.heap.size w).drew).trans hb1
  have hS1 := HC.out W1 hB1
  refine ⟨_, rfl, hS1, ?_⟩
  simp only [Act.put, List.setIfInBounds_toArray, List.set_cons_succ, List.set_cons_zero]
  refine held_take 15 10 _ (.tuple #[v1, .int .i64 (lookE s)]) rfl rfl (by kernel_rfl) (by kernel_rfl) (by kernel_rfl) rfl hS1 (fun _ _ => rfl) ?_
  simp only [Act.put, List.setIfInBounds_toArray, List.set_cons_succ, List.set_cons_zero]
  refine held_take 16 26 _ (v1) rfl rfl (by kernel_rfl) (by kernel_rfl) (by kernel_rfl) rfl hS1 (fun _ _ => rfl) ?_
  simp only [Act.put, List.setIfInBounds_toArray, List.set_cons_succ, List.set_cons_zero]
  refine held_take 17 27 _ (.int .i64 (lookE s)) rfl rfl (by kernel_rfl) (by kernel_rfl) (by kernel_rfl) rfl hS1 (fun _ _ => rfl) ?_
  simp only [Act.put, List.setIfInBounds_toArray, List.set_cons_succ, List.set_cons_zero]
  refine held_take 18 7 _ (v1) rfl rfl (by kernel_rfl) (by kernel_rfl) (by kernel_rfl) rfl hS1 (fun _ _ => rfl) ?_
  simp only [Act.put, List.setIfInBounds_toArray, List.set_cons_succ, List.set_cons_zero]
  refine held_take 19 8 _ (.int .i64 (lookE s)) rfl rfl (by kernel_rfl) (by kernel_rfl) (by kernel_rfl) rfl hS1 (fun _ _ => rfl) ?_
  simp only [Act.put, List.setIfInBounds_toArray, List.set_cons_succ, List.set_cons_zero]
  refine wpAnyH_done (by kernel_rfl) ?_ _
  refine NoPanic.normal ?_
  obtain ⟨av, cv, hv1⟩ := ho1.seg.shapeD
  subst hv1
  have hsg := ho1.seg
  clear hS0 hS1 HC HD HR hb1 ho1
  go_wp2_with fail
  go_loopw [9] (fun q wr => ∃ I : Nat, I ≤ C.length ∧ q = .int .i64 (I : Int) ∧ (C.take I).all (· == 255) = true ∧ W1 = wr) (fun q _ => C.length - (intOf q).toNat)
  case atStart => exact ⟨0, Nat.zero_le _, rfl, by simp, rfl⟩
  case round =>
    obtain ⟨I, hI, rfl, hall, rfl⟩ := hrel
    have HAL : Hid ((C.take I).all (· == 255) = true) := hall
    clear hall
    by_cases hlt : I < C.length
    · obtain ⟨qb, qo, rfl, hqc, hrow, hql⟩ := hsg.formD (by omega)
      have i1 : (I : Int) < (C.length : Int) := by omega
      have ix := index7 qb qo C.length cv (I : Int) I rfl hlt
      have dx : W1.cell? ⟨qb, qo + I, none⟩ = some (.int .u8 ((C.getD I 0).toNat : Int)) := by
        rw [hrow I hlt]
        simp [n8, hlt]
      have hgd : C.getD I 0 = C[I] := by simp [hlt]
      obtain ⟨u, hu⟩ : ∃ u : Nat, u = (C.getD I 0).toNat := ⟨_, rfl⟩
      rw [← hu] at dx
      by_cases h255 : u = 255
      · have HAL2 : Hid ((C.take (I + 1)).all (· == 255) = true) := all_take_succ C 255 I hlt HAL.out (by rw [← hgd, ← hu, h255]; rfl)
        have j1 : ((u : Int) != 255) = false := by rw [h255]; rfl
        clear h255 hu hgd
        go_wp2
        go_roundw
        case rel => exact ⟨I + 1, hlt, by go_num, HAL2.out, trivial⟩
        case measure => simp [intOf]; omega
      · have HRES : Hid (FC = false) := by
          show _ = _
          rw [HF.out, all_not C 255 I hlt (by rw [← hgd, ← hu]; exact h255), Bool.and_false]
        have j1 : ((u : Int) != 255) = true := by simpa using (by omega : ¬ (u : Int) = 255)
        clear h255 hu hgd
        go_wp2
        go_ret
        rw [HRES.out]
        exact ⟨rfl, hB1⟩
    · have i1 : ¬ (I : Int) < (C.length : Int) := by omega
      have hIe : I = C.length := by omega
      have HRES : Hid (FC = decide (C.length = 32)) := by
        show _ = _
        rw [HF.out]
        have := HAL.out
        rw [hIe, List.take_length] at this
        rw [this, Bool.and_true]
      obtain ⟨n, hn⟩ : ∃ n, C.length = n := ⟨_, rfl⟩
      rw [hn] at HRES i1
      by_cases h32 : n = 32
      · have j1 : ((n : Int) == 32) = true := by rw [h32]; rfl
        have HR2 : Hid (FC = true) := by show _ = _; rw [HRES.out, decide_eq_true h32]
        clear hIe h32 HRES
        go_wp2
        go_ret
        rw [HR2.out]
        exact ⟨rfl, hB1⟩
      · have j1 : ((n : Int) == 32) = false := by rw [beq_eq_false_iff_ne]; omega
        have HR2 : Hid (FC = false) := by show _ = _; rw [HRES.out, decide_eq_false h32]
        clear hIe h32 HRES
        go_wp2
        go_ret
        rw [HR2.out]
        exact ⟨rfl, hB1⟩
set_option maxRecDepth 100000 in
theorem rbroke9_any (L : FLay) (g j : Nat) (k : KS) (z : Int) (w : World) (hK : Blk w g 50 (kpR L j k)) :
    Calls Tryd.prog 42 #[.pointer (some ⟨g, 0, none⟩), .int .i64 z] w fun e w' => e = .returned (.int .i64 z) ∧ Blk w' g 50 (kpR L j k.broke) ∧ Chg (fun b => b = g) w w' := by
  have c10 := hK.cell (j := 10) rfl
  have z10 := hK.frozen 10
  have HK : Hid (Blk (w.setCell ⟨g, 10, none⟩ (.bool true)) g 50 (kpR L j k.broke)) := hK.set 10 (.bool true)
  have HG : Hid (Chg (fun b => b = g) w (w.setCell ⟨g, 10, none⟩ (.bool true))) := (Chg.refl (fun b => b = g) w).setCell g 10 _ (fun _ => rfl)
  clear hK
  go_enter Tryd.func42, Tryd.ntmps42
  go_wp2
  go_ret
  exact ⟨rfl, HK.out, HG.out⟩
end Go.Proofs.YtbdhkkdombdnkaaDoor
