/-
  What is proved here: how a box lies in memory; its small calls: done, start, read, Last, noEntry.
  Conditions: the box and its flash lie in memory, and the two blocks are there.
-/
import Derived.Test.YtgoehohadnkpdaaDoorJOutRight
import Derived.Test.YtgoehohadnkpdaaDoorJRoundKit
namespace Go.Proofs.YtgoehohadnkpdaaDoor
open Go.RowKit

def boxC (L : PLay6) (j : Nat) (wv : Value) (x : XS) : Array Value := #[.pointer (some ⟨L.g, 0, none⟩), .int .i64 (j : Int), wv, .int .i64 (x.last.seq : Int), .int .i64 x.last.r.c, .int .i64 x.last.r.l, .int .i64 x.last.r.v, .int .i64 x.last.r.o, .int .i64 (x.last.wh : Int), .int .i64 x.last.la, .bool x.br]
theorem info_ent12 : (Tryd.prog.info? 63).map (·.size) = some 7 := by kernel_rfl
theorem info_place12 : (Tryd.prog.info? 61).map (·.size) = some 2 := by kernel_rfl
set_option maxRecDepth 100000 in
theorem noEntryX (w : World) : Calls Tryd.prog 25 #[] w fun e w' => e = .returned (xeV XE.first) ∧ Below w.heap.size w w' := by
  have hb := fun x => (Below.refl w.heap.size w).alloc (Nat.le_refl _) (.cells x 63)
  go_enter Tryd.func25, Tryd.ntmps25
  go_wp2
  refine bodyPost_ret (v := .agg #[.int .i64 0, .int .i64 0, .int .i64 0, .int .i64 0, .int .i64 0, .int .i64 0, .int .i64 (-1)]) (results_cell_row Tryd.results25 _ _ w.heap.size 63 #[.int .i64 0, .int .i64 0, .int .i64 0, .int .i64 0, .int .i64 0, .int .i64 0, .int .i64 (-1)] (0, 0) _ rfl (Blk.new _ _ _) Tryd.underlying63 rfl info_ent12) rfl ⟨rfl, ?_⟩
  exact hb _
set_option maxRecDepth 100000 in
theorem doneX (L : PLay6) (g j : Nat) (wv : Value) (x : XS) (z : Int) (w : World) (hK : Blk w g 67 (boxC L j wv x)) :
    Calls Tryd.prog 28 #[.pointer (some ⟨g, 0, none⟩), .int .i64 z] w fun e w' => e = .returned (.int .i64 z) ∧ Blk w' g 67 (boxC L j wv { x with br := z != 0 }) ∧ Chg (fun q => q = g) w w' := by
  have c10 := hK.cell (j := 10) rfl
  have f10 := hK.frozen 10
  have hc : Chg (fun q => q = g) w (w.setCell ⟨g, 10, none⟩ (.bool (z != 0))) := (Chg.refl _ _).setCell g 10 _ (fun _ => rfl)
  have hk : Blk (w.setCell ⟨g, 10, none⟩ (.bool (z != 0))) g 67 (boxC L j wv { x with br := z != 0 }) := (hK.set 10 (.bool (z != 0))).of_eq rfl
  clear hK
  go_enter Tryd.func28, Tryd.ntmps28
  go_wp2
  go_ret
  exact ⟨rfl, hk, hc⟩
set_option maxRecDepth 100000 in
theorem lastX (L : PLay6) (g j : Nat) (wv : Value) (x : XS) (w : World) (hK : Blk w g 67 (boxC L j wv x)) :
    Calls Tryd.prog 14 #[.pointer (some ⟨g, 0, none⟩)] w fun e w' => e = .returned (.int .i64 (x.last.seq : Int)) ∧ w' = w := by
  have c3 : w.cell? ⟨g, 3, none⟩ = some (.int .i64 (x.last.seq : Int)) := hK.cell (j := 3) rfl
  clear hK
  go_enter Tryd.func14, Tryd.ntmps14
  go_wp2
  go_ret
  exact ⟨rfl, rfl⟩
set_option maxRecDepth 100000 in
set_option maxHeartbeats 1000000 in
theorem startP (L : PLay6) (g j : Nat) (wv : Value) (x : XS) (wh : Nat) (la : Int) (w : World) (hK : Blk w g 67 (boxC L j wv x)) (hj : j ≤ 256) (hw : wh ≤ 1) (h0 : -1 ≤ la) (h1 : la ≤ 31) :
    Calls Tryd.prog 30 #[.pointer (some ⟨g, 0, none⟩), .agg #[.int .i64 (wh : Int), .int .i64 la]] w fun e w' => e = .returned (.int .i64 (((j : Int) + (wh : Int)) * 1024 + la * 32)) ∧ Below w.heap.size w w' := by
  have hb0 := (Below.refl w.heap.size w).alloc (Nat.le_refl _) (.cells #[.int .i64 (wh : Int), .int .i64 la] 61)
  have c1 : w.cell? ⟨g, 1, none⟩ = some (.int .i64 (j : Int)) := hK.cell (j := 1) rfl
  have hgl := hK.lt
  have hgn : g ≠ w.heap.size := by omega
  clear hK
  have e1 : IntKind.i64.wrap ((j : Int) + (wh : Int)) = (j : Int) + (wh : Int) := by rw [IntKind.wrap_i64]; omega
  have e2 : IntKind.i64.wrap (((j : Int) + (wh : Int)) * 1024) = ((j : Int) + (wh : Int)) * 1024 := by rw [IntKind.wrap_i64]; omega
  have e3 : IntKind.i64.wrap (la * 32) = la * 32 := by rw [IntKind.wrap_i64]; omega
  have e4 : IntKind.i64.wrap (((j : Int) + (wh : Int)) * 1024 + la * 32) = ((j : Int) + (wh : Int)) * 1024 + la * 32 := by rw [IntKind.wrap_i64]; omega
  clear hj hw h0 h1
  go_enter Tryd.func30, Tryd.ntmps30
  go_wp2_with fail
  go_quiet (fail)
  go_wp2
  go_ret
  exact ⟨rfl, Below.drewN hb0 _⟩
theorem read_cell {s : FS} {n j wh i : Nat} (hs : s.ok n) (hd : s.down = false) (h : j + wh < n) (hi : i < 32) : readF s (((j : Int) + (wh : Int)) * 1024 + (i : Int) * 32) 32 = (cellB (blkB s (j + wh)) i, 0) := by
  have hl := hs.b
  unfold readF
  rw [hd, if_neg (by decide), there9 (by decide) (by decide) (by omega) (by omega), if_neg (by decide)]
  unfold cellB blkB
  rw [show (((j : Int) + (wh : Int)) * 1024 + (i : Int) * 32).toNat = 1024 * (j + wh) + 32 * i by omega, List.drop_take, List.take_take, List.drop_drop]
  congr 2
  show 32 = min 32 (1024 - 32 * i)
  omega
set_option maxRecDepth 100000 in
set_option maxHeartbeats 1000000 in
theorem readX (L : PLay6) (s : FS) (g j : Nat) (wv : Value) (x : XS) (wh i : Nat) (w : World) (hK : Blk w g 67 (boxC L j wv x)) (hD : PFlash w L s) (hdn : s.down = false) (hj : j + wh < L.n) (hw : wh ≤ 1) (hi : i < 32) :
    Calls Tryd.prog 38 #[.pointer (some ⟨g, 0, none⟩), .agg #[.int .i64 (wh : Int), .int .i64 (i : Int)]] w fun e w' => ∃ v, e = .returned (.tuple #[v, .int .i64 0]) ∧ Own w' w.heap.size v (cellB (blkB s (j + wh)) i) ∧ Below w.heap.size w w' := by
  have hcap := hD.ok.cap
  obtain ⟨AT, hAT⟩ : ∃ AT : Int, AT = ((j : Int) + (wh : Int)) * 1024 + (i : Int) * 32 := ⟨_, rfl⟩
  have HR : Hid (∀ W, PFlash W L s → Calls Tryd.prog 57 #[.pointer (some ⟨L.g, 0, none⟩), .int .i64 AT, .int .i64 32] W fun e w' => ∃ v, e = .returned (.tuple #[v, .int .i64 0]) ∧ Own w' W.heap.size v (cellB (blkB s (j + wh)) i) ∧ Below W.heap.size W w') := fun W hW => by
    have := read6_any L s AT 32 W hW
    rw [hAT, read_cell hD.ok hdn hj hi] at this
    rw [hAT]
    exact this
  have hb0 := (Below.refl w.heap.size w).alloc (Nat.le_refl _) (.cells #[.int .i64 (wh : Int), .int .i64 (i : Int)] 61)
  have hk0 := Blk.new w 61 #[.int .i64 (wh : Int), .int .i64 (i : Int)]
  obtain ⟨w1, hw1⟩ : ∃ w1, w1 = w.alloc (.cells #[.int .i64 (wh : Int), .int .i64 (i : Int)] 61) := ⟨_, rfl⟩
  have HST : Hid (∀ V, Blk V g 67 (boxC L j wv x) → Calls Tryd.prog 30 #[.pointer (some ⟨g, 0, none⟩), .agg #[.int .i64 (wh : Int), .int .i64 (i : Int)]] V fun e w' => e = .returned (.int .i64 AT) ∧ Below V.heap.size V w') := fun V hV => by rw [hAT]; exact startP L g j wv x wh (i : Int) V hV (by omega) hw (by omega) (by omega)
  have hKA := hK.below hb0 hK.lt
  have hDA := thePF.after hD hb0
  obtain ⟨Bx, hBx⟩ : ∃ Bx, Bx = w.heap.size := ⟨_, rfl⟩
  rw [← hw1] at hb0 hk0 hKA hDA
  rw [← hBx] at hk0
  have HC : Hid (∀ V, Below w1.heap.size w1 V → V.cell? ⟨g, 0, none⟩ = some (.pointer (some ⟨L.g, 0, none⟩)) ∧ V.rangeAt Bx 0 [.int .i64 (wh : Int), .int .i64 (i : Int)]) := fun V hV => ⟨(hKA.below hV hKA.lt).cell (j := 0) rfl, (hk0.below hV hk0.lt).range'⟩
  have hS0 := HC.out w1.drew (Below.refl _ _).drew
  clear hK hD hAT
  go_enter Tryd.func38, Tryd.ntmps38
  go_wp2_with fail
  rw [← hw1, ← hBx]
  clear hw1 hk0
  refine held_begin (fun V => V.cell? ⟨g, 0, none⟩ = some (.pointer (some ⟨L.g, 0, none⟩)) ∧ V.rangeAt Bx 0 [.int .i64 (wh : Int), .int .i64 (i : Int)]) (by kernel_rfl) ?_
  refine held_take 0 6 _ (.pointer (some ⟨g, 0, none⟩)) rfl rfl (by kernel_rfl) (by kernel_rfl) (by kernel_rfl) rfl hS0 (fun _ _ => rfl) ?_
  simp only [Act.put, List.setIfInBounds_toArray, List.set_cons_succ, List.set_cons_zero]
  refine held_take 1 7 _ (.pointer (some ⟨g, 0, none⟩)) rfl rfl (by kernel_rfl) (by kernel_rfl) (by kernel_rfl) rfl hS0 (fun _ _ => rfl) ?_
  simp only [Act.put, List.setIfInBounds_toArray, List.set_cons_succ, List.set_cons_zero]
  refine held_take 2 8 _ (.pointer (some ⟨g, 0, none⟩)) rfl rfl (by kernel_rfl) (by kernel_rfl) (by kernel_rfl) rfl hS0 (fun _ _ => rfl) ?_
  simp only [Act.put, List.setIfInBounds_toArray, List.set_cons_succ, List.set_cons_zero]
  refine held_take 3 9 _ (.pointer (some ⟨L.g, 0, none⟩)) rfl rfl (by kernel_rfl) (by kernel_rfl) (by kernel_rfl) rfl hS0 (fun V hV => exec_loadc 27 _ rfl _ _ rfl (load_one 27 (fun _ => by kernel_rfl) V _ _ _ hV.1)) ?_
  simp only [Act.put, List.setIfInBounds_toArray, List.set_cons_succ, List.set_cons_zero]
  refine held_take 4 10 _ (.pointer (some ⟨g, 0, none⟩)) rfl rfl (by kernel_rfl) (by kernel_rfl) (by kernel_rfl) rfl hS0 (fun _ _ => rfl) ?_
  simp only [Act.put, List.setIfInBounds_toArray, List.set_cons_succ, List.set_cons_zero]
  refine held_take 5 11 _ (.agg #[.int .i64 (wh : Int), .int .i64 (i : Int)]) rfl rfl (by kernel_rfl) (by kernel_rfl) (by kernel_rfl) rfl hS0 (fun V hV => exec_loads 61 _ rfl Bx 0 rfl [.int .i64 (wh : Int), .int .i64 (i : Int)] _ hV.2 Tryd.underlying61 rfl info_place12) ?_
  simp only [Act.put, List.setIfInBounds_toArray, List.set_cons_succ, List.set_cons_zero]
  refine held_all1 6 (by kernel_rfl) (op_call 6 12 _ 30 #[.pointer (some ⟨g, 0, none⟩), .agg #[.int .i64 (wh : Int), .int .i64 (i : Int)]] rfl rfl rfl (exec_two8 30 _ _ _ rfl _ _ rfl rfl Tryd.call30) ((HST.out _ hKA.drew).mono ?_))
  rintro e W0 ⟨rfl, hbs⟩
  have hBs : Below w1.heap.size w1 W0 := ((Below.refl w1.heap.size w1).drew).trans hbs
  have hSs := HC.out W0 hBs
  refine ⟨_, rfl, hSs, ?_⟩
  simp only [Act.put, List.setIfInBounds_toArray, List.set_cons_succ, List.set_cons_zero]
  refine held_all1 7 (by kernel_rfl) (op_call 7 13 _ 57 #[.pointer (some ⟨L.g, 0, none⟩), .int .i64 AT, .int .i64 32] rfl rfl rfl (exec_three8 57 _ _ _ _ rfl _ _ _ rfl rfl rfl Tryd.call57) ((HR.out _ (thePF.after hDA hBs)).mono ?_))
  rintro e W1 ⟨v1, rfl, ho1, hb1⟩
  have hB1 : Below w1.heap.size w1 W1 := hBs.trans (hb1.mono hBs.size)
  have hS1 := HC.out W1 hB1
  replace ho1 := ho1.mono (Nat.le_trans hb0.size hBs.size)
  refine ⟨_, rfl, hS1, ?_⟩
  simp only [Act.put, List.setIfInBounds_toArray, List.set_cons_succ, List.set_cons_zero]
  refine held_take 8 14 _ (v1) rfl rfl (by kernel_rfl) (by kernel_rfl) (by kernel_rfl) rfl hS1 (fun _ _ => rfl) ?_
  simp only [Act.put, List.setIfInBounds_toArray, List.set_cons_succ, List.set_cons_zero]
  refine held_take 9 15 _ (.int .i64 0) rfl rfl (by kernel_rfl) (by kernel_rfl) (by kernel_rfl) rfl hS1 (fun _ _ => rfl) ?_
  simp only [Act.put, List.setIfInBounds_toArray, List.set_cons_succ, List.set_cons_zero]
  refine held_take 10 4 _ (v1) rfl rfl (by kernel_rfl) (by kernel_rfl) (by kernel_rfl) rfl hS1 (fun _ _ => rfl) ?_
  simp only [Act.put, List.setIfInBounds_toArray, List.set_cons_succ, List.set_cons_zero]
  refine held_take 11 5 _ (.int .i64 0) rfl rfl (by kernel_rfl) (by kernel_rfl) (by kernel_rfl) rfl hS1 (fun _ _ => rfl) ?_
  simp only [Act.put, List.setIfInBounds_toArray, List.set_cons_succ, List.set_cons_zero]
  refine wpAnyH_done (by kernel_rfl) ?_ _
  refine NoPanic.normal ?_
  go_wp2
  go_ret2
  exact ⟨v1, rfl, ho1, hb0.trans (hB1.mono hb0.size)⟩
end Go.Proofs.YtgoehohadnkpdaaDoor
