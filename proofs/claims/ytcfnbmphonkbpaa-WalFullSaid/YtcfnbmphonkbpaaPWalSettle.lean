/-
  What is proved here: the program's log: a change: its bytes, and its head, are written; behind that they count.
  Conditions: the disk and the log lie in memory.
-/
import Derived.Test.YtcfnbmphonkbpaaPWalChange
namespace Go.Proofs.Ytcfnbmphonkbpaa
open Go.RowKit

theorem exec_rem7 {a : Act} {o : Oper} {w : World} (t : TypeId) (x y : Operand) (ho : o.op = .binOp .rem t x y t) (m n : Int) (r : Int) (hx : a.eval x = .int .i64 m) (hy : a.eval y = .int .i64 n) (hn : n ≠ 0) (h : Int.tmod m n = r) : (execOp a.eval o).run Try.prog w = .ok (.value (.int .i64 r)) w := by
  subst h
  unfold execOp
  simp [ho, hx, hy, binOp, Op.intDiv, hn]
  rfl
theorem exec_sub7 {a : Act} {o : Oper} {w : World} (t : TypeId) (x y : Operand) (ho : o.op = .binOp .sub t x y t) (m n r : Int) (hx : a.eval x = .int .i64 m) (hy : a.eval y = .int .i64 n) (h : m - n = r ∧ -9223372036854775808 ≤ r ∧ r < 9223372036854775808) : (execOp a.eval o).run Try.prog w = .ok (.value (.int .i64 r)) w := by
  obtain ⟨rfl, h1, h2⟩ := h
  exact exec_subi t x y ho m n hx hy h1 h2
theorem exec_make1 {a : Act} {o : Oper} {w : World} (fn : Fn) (x : Operand) (ho : o.op = .makeFunc fn #[x] #[]) (u : Value) (hx : a.eval x = u) : (execOp a.eval o).run Try.prog w = .ok (.value (.func fn #[u] #[])) w := by
  unfold execOp
  simp only [ho, List.map_toArray, List.map_cons, List.map_nil, hx]
  generalize a.eval = ev
  simp [go_sem]
theorem exec_funcs {a : Act} {o : Oper} {w : World} (x0 x1 x2 x3 : Operand) (ho : o.op = .buildSlice 92 4 #[(0, x0), (1, x1), (2, x2), (3, x3)]) (f0 f1 f2 f3 : Fn) (p0 p1 p2 p3 q0 q1 q2 q3 : Array Value) (h0 : a.eval x0 = .func f0 p0 q0) (h1 : a.eval x1 = .func f1 p1 q1) (h2 : a.eval x2 = .func f2 p2 q2) (h3 : a.eval x3 = .func f3 p3 q3) : (execOp a.eval o).run Try.prog w = .ok (.value (.slice (some ⟨w.heap.size, 0, none⟩) 4 4)) (w.alloc (.cells #[.func f0 p0 q0, .func f1 p1 q1, .func f2 p2 q2, .func f3 p3 q3] 40)) := by
  unfold execOp
  simp only [ho, List.map_toArray, List.map_cons, List.map_nil, h0, h1, h2, h3]
  generalize a.eval = ev
  simp [go_sem]
/-- What a change leaves of the log. -/
def SettleEnd (w w' : World) (G : Nat) (L : PLay) (CD : Nat → Prop) (size n gen len : Nat) (bg : Bool) (tv : Value) (N g : Nat) (b : List UInt8) (R : Int × DS) : Prop :=
  ∃ CD' : Nat → Prop, OD w' L CD' R.2 ∧ (∀ q, CD' q → CD q ∨ w.heap.size ≤ q) ∧ (∀ q, q < w.heap.size → ¬ CD q → ¬ CD' q) ∧ Chg (fun q => CD q ∨ q = G) w w' ∧
    ((R.1 ≠ 0 ∧ LogB w' G L.g size n gen len bg true tv) ∨ (R.1 = 0 ∧ ∃ tv', LogB w' G L.g size N g b.length bg false tv' ∧ Own w' w.heap.size tv' (b.drop (b.length / 128 * 128)) ∧ ∀ q, tv'.ownBlock = some q → ¬ CD' q))
set_option maxRecDepth 100000 in
set_option maxHeartbeats 4000000 in
theorem settle_any {w : World} {G size n gen len : Nat} {bg : Bool} {ta : Option Addr} {tl tc : Nat} {L : PLay} {CD : Nat → Prop} {s : DS} (N g I : Nat) (x : Value) (h : LogB w G L.g size n gen len bg false (.slice ta tl tc)) (hD : OD w L CD s) (hG : ¬ CD G) (b : List UInt8) (hb : b.length ≤ 262016) (hx : SegA w CD x (b.drop (I * 128))) (hxG : 0 < (b.drop (I * 128)).length → ∀ q, x.ownBlock = some q → q ≠ G) (hsz : size ≤ 262016) (hI : I ≤ 5000) (hIb : I * 128 ≤ b.length) (F : Nat) (hF : b.length ≤ (I + F) * 128) (hN : N < 4294967296) (hg : g < 4294967296) :
    Calls Try.prog 33 #[.pointer (some ⟨G, 0, none⟩), headV N g b.length, .int .i64 (I : Int), x] w fun e w' => e = .returned (.int .i64 (contW (2 + g % 2 * (size / 128)) N g b.length I F b 4 0 s).1) ∧ SettleEnd w w' G L CD size n gen len bg (.slice ta tl tc) N g b (contW (2 + g % 2 * (size / 128)) N g b.length I F b 4 0 s) := by
  have hGl : G < w.heap.size := Blk.lt h
  have hlt := hD.lt
  obtain ⟨ax, cx, rfl⟩ := Seg.shapeD hx.1
  obtain ⟨R, hR⟩ : ∃ R, R = contW (2 + g % 2 * (size / 128)) N g b.length I F b 4 0 s := ⟨_, rfl⟩
  rw [← hR]
  unfold headV
  have HCH : Hid (∀ W : World, Chg CD w W → ∀ gs, Blk W gs 40 #[stepV w.heap.size (w.heap.size + 1) (w.heap.size + 1 + 1) (w.heap.size + 1 + 1 + 1) L.g 0, stepV w.heap.size (w.heap.size + 1) (w.heap.size + 1 + 1) (w.heap.size + 1 + 1 + 1) L.g 1, stepV w.heap.size (w.heap.size + 1) (w.heap.size + 1 + 1) (w.heap.size + 1 + 1 + 1) L.g 2, stepV w.heap.size (w.heap.size + 1) (w.heap.size + 1 + 1) (w.heap.size + 1 + 1 + 1) L.g 3] → ¬ CD gs → Boxes W CD w.heap.size (w.heap.size + 1) (w.heap.size + 1 + 1) (w.heap.size + 1 + 1 + 1) G N g b.length I (.slice ax (b.drop (I * 128)).length cx) → OD W L CD s → Calls Try.prog 52 #[.pointer (some ⟨G, 0, none⟩), .slice (some ⟨gs, 0, none⟩) 4 4] W fun e w' => e = .returned (.int .i64 R.1) ∧ OD w' L (Fr CD W w') R.2 ∧ LogB w' G L.g size n gen len bg (decide (R.1 ≠ 0)) (.slice ta tl tc) ∧ Chg (fun q => CD q ∨ q = G) W w') := fun W hW gs h1 h2 h3 h4 => by
    rw [hR]
    exact change_any (Blk.chg h hW hG) h4 hG h3 b (by omega) ⟨hx.1.chg hW hx.2, hx.2⟩ hsz hI F hF hN hg (by omega) 40 h1 h2
  have HXL : Hid ((b.drop (I * 128)).length = b.length - I * 128) := List.length_drop ..
  obtain ⟨LB, hLB⟩ : ∃ LB, LB = (b.drop (I * 128)).length := ⟨_, rfl⟩
  rw [← hLB] at HCH HXL
  have HX : Hid (SegA w (fun q => CD q ∨ q = G) (.slice ax LB cx) (b.drop (I * 128))) := by show SegA _ _ _ _; rw [hLB]; exact ⟨hx.1, fun h0 q hq e => by rcases e with e | e; exact hx.2 h0 q hq e; exact hxG h0 q hq e⟩
  rw [← hLB]
  clear hLB hx hR hxG
  have hB4 := ((((Below.refl w.heap.size w).alloc (Nat.le_refl _) (.cells #[.pointer (some ⟨G, 0, none⟩)] 29)).alloc (by simp) (.cells #[.int .i64 (N : Int), .int .i64 (g : Int), .int .i64 (b.length : Int)] 55)).alloc (by simp; omega) (.cells #[.int .i64 (I : Int)] 3)).alloc (by simp; omega) (.cells #[.slice ax LB cx] 30)
  have kl : Blk ((((w.alloc (.cells #[.pointer (some ⟨G, 0, none⟩)] 29)).alloc (.cells #[.int .i64 (N : Int), .int .i64 (g : Int), .int .i64 (b.length : Int)] 55)).alloc (.cells #[.int .i64 (I : Int)] 3)).alloc (.cells #[.slice ax LB cx] 30)) w.heap.size 29 #[.pointer (some ⟨G, 0, none⟩)] := (((Blk.new w _ _).alloc _).alloc _).alloc _
  have kn : Blk ((((w.alloc (.cells #[.pointer (some ⟨G, 0, none⟩)] 29)).alloc (.cells #[.int .i64 (N : Int), .int .i64 (g : Int), .int .i64 (b.length : Int)] 55)).alloc (.cells #[.int .i64 (I : Int)] 3)).alloc (.cells #[.slice ax LB cx] 30)) (w.heap.size + 1) 55 #[.int .i64 (N : Int), .int .i64 (g : Int), .int .i64 (b.length : Int)] := ((Blk.newAt _ _ _ _ (by simp)).alloc _).alloc _
  have ki : Blk ((((w.alloc (.cells #[.pointer (some ⟨G, 0, none⟩)] 29)).alloc (.cells #[.int .i64 (N : Int), .int .i64 (g : Int), .int .i64 (b.length : Int)] 55)).alloc (.cells #[.int .i64 (I : Int)] 3)).alloc (.cells #[.slice ax LB cx] 30)) (w.heap.size + 1 + 1) 3 #[.int .i64 (I : Int)] := (Blk.newAt _ _ _ _ (by simp)).alloc _
  have kb : Blk ((((w.alloc (.cells #[.pointer (some ⟨G, 0, none⟩)] 29)).alloc (.cells #[.int .i64 (N : Int), .int .i64 (g : Int), .int .i64 (b.length : Int)] 55)).alloc (.cells #[.int .i64 (I : Int)] 3)).alloc (.cells #[.slice ax LB cx] 30)) (w.heap.size + 1 + 1 + 1) 30 #[.slice ax LB cx] := Blk.newAt _ _ _ _ (by simp)
  have hn : ∀ {k : Nat}, w.heap.size ≤ k → ¬ CD k := fun hk e => by have := hlt _ e; omega
  go_enter Try.func33, Try.ntmps33
  go_wp2_with fail
  generalize (((w.alloc (.cells #[.pointer (some ⟨G, 0, none⟩)] 29)).alloc (.cells #[.int .i64 (N : Int), .int .i64 (g : Int), .int .i64 (b.length : Int)] 55)).alloc (.cells #[.int .i64 (I : Int)] 3)).alloc (.cells #[.slice ax LB cx] 30) = W1 at *
  have hc1 : Chg CD w W1 := Chg.of_below hB4 (Nat.le_refl _)
  have hX1 : Boxes W1 CD w.heap.size (w.heap.size + 1) (w.heap.size + 1 + 1) (w.heap.size + 1 + 1 + 1) G N g b.length I (.slice ax LB cx) := ⟨kl, kn, ki, kb, hn (by omega), hn (by omega), hn (by omega), hn (by omega)⟩
  have hL1 := Blk.chg h hc1 hG
  have hD1 := hD.after hB4
  have HCE : Hid (∀ W : World, Below W1.heap.size W1 W → W.cell? ⟨w.heap.size, 0, none⟩ = some (.pointer (some ⟨G, 0, none⟩)) ∧ W.cell? ⟨G, 0, none⟩ = some (.pointer (some ⟨L.g, 0, none⟩))) := fun W hW => ⟨(kl.below hW kl.lt).cell rfl, (Blk.below hL1 hW (Blk.lt hL1)).cell (j := 0) rfl⟩
  have hS0 := HCE.out W1.drew ((Below.refl _ _).drew)
  have s1 : w.heap.size + 4 ≤ W1.heap.size := by have := kb.lt; omega
  clear h hD kl kn ki kb
  refine held_begin (fun V => V.cell? ⟨w.heap.size, 0, none⟩ = some (.pointer (some ⟨G, 0, none⟩)) ∧ V.cell? ⟨G, 0, none⟩ = some (.pointer (some ⟨L.g, 0, none⟩))) (by kernel_rfl) ?_
  refine held_take 0 14 _ (.pointer (some ⟨G, 0, none⟩)) rfl rfl (by kernel_rfl) (by kernel_rfl) (by kernel_rfl) rfl hS0 (fun V hV => exec_loadc 29 _ rfl _ _ rfl (load_one 29 (fun _ => by kernel_rfl) V _ _ _ hV.1)) ?_
  simp only [Act.put, List.setIfInBounds_toArray, List.set_cons_succ, List.set_cons_zero]
  refine held_take 1 15 _ (.func (.func 45) #[] #[.pointer (some ⟨w.heap.size, 0, none⟩), .pointer (some ⟨w.heap.size + 1, 0, none⟩), .pointer (some ⟨w.heap.size + 1 + 1, 0, none⟩), .pointer (some ⟨w.heap.size + 1 + 1 + 1, 0, none⟩)]) rfl rfl (by kernel_rfl) (by kernel_rfl) (by kernel_rfl) rfl hS0 (fun _ _ => rfl) ?_
  simp only [Act.put, List.setIfInBounds_toArray, List.set_cons_succ, List.set_cons_zero]
  refine held_take 2 16 _ (.pointer (some ⟨G, 0, none⟩)) rfl rfl (by kernel_rfl) (by kernel_rfl) (by kernel_rfl) rfl hS0 (fun V hV => exec_loadc 29 _ rfl _ _ rfl (load_one 29 (fun _ => by kernel_rfl) V _ _ _ hV.1)) ?_
  simp only [Act.put, List.setIfInBounds_toArray, List.set_cons_succ, List.set_cons_zero]
  refine held_take 3 17 _ (.pointer (some ⟨G, 0, none⟩)) rfl rfl (by kernel_rfl) (by kernel_rfl) (by kernel_rfl) rfl hS0 (fun _ _ => rfl) ?_
  simp only [Act.put, List.setIfInBounds_toArray, List.set_cons_succ, List.set_cons_zero]
  refine held_take 4 18 _ (.pointer (some ⟨G, 0, none⟩)) rfl rfl (by kernel_rfl) (by kernel_rfl) (by kernel_rfl) rfl hS0 (fun _ _ => rfl) ?_
  simp only [Act.put, List.setIfInBounds_toArray, List.set_cons_succ, List.set_cons_zero]
  refine held_take 5 19 _ (.pointer (some ⟨L.g, 0, none⟩)) rfl rfl (by kernel_rfl) (by kernel_rfl) (by kernel_rfl) rfl hS0 (fun V hV => exec_loadc 25 _ rfl _ _ rfl (load_one 25 (fun _ => by kernel_rfl) V _ _ _ hV.2)) ?_
  simp only [Act.put, List.setIfInBounds_toArray, List.set_cons_succ, List.set_cons_zero]
  refine held_take 6 20 _ (.func (.func 53) #[.pointer (some ⟨L.g, 0, none⟩)] #[]) rfl rfl (by kernel_rfl) (by kernel_rfl) (by kernel_rfl) rfl hS0 (fun _ _ => exec_make1 _ _ rfl _ rfl) ?_
  simp only [Act.put, List.setIfInBounds_toArray, List.set_cons_succ, List.set_cons_zero]
  refine held_take 7 21 _ (.func (.func 48) #[] #[.pointer (some ⟨w.heap.size, 0, none⟩), .pointer (some ⟨w.heap.size + 1, 0, none⟩)]) rfl rfl (by kernel_rfl) (by kernel_rfl) (by kernel_rfl) rfl hS0 (fun _ _ => rfl) ?_
  simp only [Act.put, List.setIfInBounds_toArray, List.set_cons_succ, List.set_cons_zero]
  refine held_take 8 22 _ (.pointer (some ⟨G, 0, none⟩)) rfl rfl (by kernel_rfl) (by kernel_rfl) (by kernel_rfl) rfl hS0 (fun V hV => exec_loadc 29 _ rfl _ _ rfl (load_one 29 (fun _ => by kernel_rfl) V _ _ _ hV.1)) ?_
  simp only [Act.put, List.setIfInBounds_toArray, List.set_cons_succ, List.set_cons_zero]
  refine held_take 9 23 _ (.pointer (some ⟨G, 0, none⟩)) rfl rfl (by kernel_rfl) (by kernel_rfl) (by kernel_rfl) rfl hS0 (fun _ _ => rfl) ?_
  simp only [Act.put, List.setIfInBounds_toArray, List.set_cons_succ, List.set_cons_zero]
  refine held_take 10 24 _ (.pointer (some ⟨G, 0, none⟩)) rfl rfl (by kernel_rfl) (by kernel_rfl) (by kernel_rfl) rfl hS0 (fun _ _ => rfl) ?_
  simp only [Act.put, List.setIfInBounds_toArray, List.set_cons_succ, List.set_cons_zero]
  refine held_take 11 25 _ (.pointer (some ⟨L.g, 0, none⟩)) rfl rfl (by kernel_rfl) (by kernel_rfl) (by kernel_rfl) rfl hS0 (fun V hV => exec_loadc 25 _ rfl _ _ rfl (load_one 25 (fun _ => by kernel_rfl) V _ _ _ hV.2)) ?_
  simp only [Act.put, List.setIfInBounds_toArray, List.set_cons_succ, List.set_cons_zero]
  refine held_take 12 26 _ (.func (.func 53) #[.pointer (some ⟨L.g, 0, none⟩)] #[]) rfl rfl (by kernel_rfl) (by kernel_rfl) (by kernel_rfl) rfl hS0 (fun _ _ => exec_make1 _ _ rfl _ rfl) ?_
  simp only [Act.put, List.setIfInBounds_toArray, List.set_cons_succ, List.set_cons_zero]
  have hbG : Below W1.heap.size W1 (W1.drew.alloc (.cells #[stepV w.heap.size (w.heap.size + 1) (w.heap.size + 1 + 1) (w.heap.size + 1 + 1 + 1) L.g 0, stepV w.heap.size (w.heap.size + 1) (w.heap.size + 1 + 1) (w.heap.size + 1 + 1 + 1) L.g 1, stepV w.heap.size (w.heap.size + 1) (w.heap.size + 1 + 1) (w.heap.size + 1 + 1 + 1) L.g 2, stepV w.heap.size (w.heap.size + 1) (w.heap.size + 1 + 1) (w.heap.size + 1 + 1 + 1) L.g 3] 40)) := ((Below.refl _ W1).drew).alloc (Nat.le_refl _) _
  have hkG : Blk (W1.drew.alloc (.cells #[stepV w.heap.size (w.heap.size + 1) (w.heap.size + 1 + 1) (w.heap.size + 1 + 1 + 1) L.g 0, stepV w.heap.size (w.heap.size + 1) (w.heap.size + 1 + 1) (w.heap.size + 1 + 1 + 1) L.g 1, stepV w.heap.size (w.heap.size + 1) (w.heap.size + 1 + 1) (w.heap.size + 1 + 1 + 1) L.g 2, stepV w.heap.size (w.heap.size + 1) (w.heap.size + 1 + 1) (w.heap.size + 1 + 1 + 1) L.g 3] 40)) W1.heap.size 40 #[stepV w.heap.size (w.heap.size + 1) (w.heap.size + 1 + 1) (w.heap.size + 1 + 1 + 1) L.g 0, stepV w.heap.size (w.heap.size + 1) (w.heap.size + 1 + 1) (w.heap.size + 1 + 1 + 1) L.g 1, stepV w.heap.size (w.heap.size + 1) (w.heap.size + 1 + 1) (w.heap.size + 1 + 1 + 1) L.g 2, stepV w.heap.size (w.heap.size + 1) (w.heap.size + 1 + 1) (w.heap.size + 1 + 1 + 1) L.g 3] := Blk.new W1.drew _ _
  have hS1 := HCE.out _ hbG
  refine held_all1 13 (by kernel_rfl) (op_value 13 27 _ (.slice (some ⟨W1.heap.size, 0, none⟩) 4 4) (W1.drew.alloc (.cells #[stepV w.heap.size (w.heap.size + 1) (w.heap.size + 1 + 1) (w.heap.size + 1 + 1 + 1) L.g 0, stepV w.heap.size (w.heap.size + 1) (w.heap.size + 1 + 1) (w.heap.size + 1 + 1 + 1) L.g 1, stepV w.heap.size (w.heap.size + 1) (w.heap.size + 1 + 1) (w.heap.size + 1 + 1 + 1) L.g 2, stepV w.heap.size (w.heap.size + 1) (w.heap.size + 1 + 1) (w.heap.size + 1 + 1 + 1) L.g 3] 40)) rfl rfl rfl (exec_funcs _ _ _ _ rfl _ _ _ _ _ _ _ _ _ _ _ _ rfl rfl rfl rfl) ⟨hS1, ?_⟩)
  simp only [Act.put, List.setIfInBounds_toArray, List.set_cons_succ, List.set_cons_zero]
  have HCH2 := HCH.out _ (hc1.trans (Chg.of_below (S := CD) hbG (Nat.le_refl _)) (fun _ _ h => h)) W1.heap.size hkG (hn (by omega)) (hX1.chg (S := fun _ => False) (Chg.of_below hbG (Nat.le_refl _)) (fun _ h => h.elim)) (hD1.after hbG)
  refine held_all1 14 (by kernel_rfl) (op_call 14 28 _ 52 #[.pointer (some ⟨G, 0, none⟩), .slice (some ⟨W1.heap.size, 0, none⟩) 4 4] rfl rfl rfl (exec_two8 52 _ _ _ rfl _ _ rfl rfl Try.call52) (HCH2.mono ?_))
  rintro e W3 ⟨rfl, hO3, hL3, hc3⟩
  have hC3 : Chg (fun q => CD q ∨ q = G) W1 W3 := (Chg.of_below (S := fun q => CD q ∨ q = G) hbG (Nat.le_refl _)).trans hc3 (fun _ _ h => h)
  have hX3 := hX1.chgG hC3 (fun q hq => hq) (by omega)
  have hS3 : W3.cell? ⟨w.heap.size, 0, none⟩ = some (.pointer (some ⟨G, 0, none⟩)) ∧ W3.cell? ⟨G, 0, none⟩ = some (.pointer (some ⟨L.g, 0, none⟩)) := ⟨hX3.l.cell rfl, hL3.cell (j := 0) rfl⟩
  refine ⟨_, rfl, hS3, ?_⟩
  simp only [Act.put, List.setIfInBounds_toArray, List.set_cons_succ, List.set_cons_zero]
  refine held_all1 15 (by kernel_rfl) (op_value 15 11 _ (.int .i64 R.1) W3 rfl rfl rfl (rfl) ⟨hS3, ?_⟩)
  simp only [Act.put, List.setIfInBounds_toArray, List.set_cons_succ, List.set_cons_zero]
  refine wpAnyH_done (by kernel_rfl) ?_ _
  refine NoPanic.normal ?_
  have hsV : w.heap.size ≤ (W1.drew.alloc (.cells #[stepV w.heap.size (w.heap.size + 1) (w.heap.size + 1 + 1) (w.heap.size + 1 + 1 + 1) L.g 0, stepV w.heap.size (w.heap.size + 1) (w.heap.size + 1 + 1) (w.heap.size + 1 + 1 + 1) L.g 1, stepV w.heap.size (w.heap.size + 1) (w.heap.size + 1 + 1) (w.heap.size + 1 + 1 + 1) L.g 2, stepV w.heap.size (w.heap.size + 1) (w.heap.size + 1 + 1) (w.heap.size + 1 + 1 + 1) L.g 3] 40)).heap.size := Nat.le_trans (by omega) hbG.size
  have hCw : Chg (fun q => CD q ∨ q = G) w W3 := (hc1.weaken (fun _ h => .inl h)).trans hC3 (fun _ _ h => h)
  generalize W1.drew.alloc (.cells #[stepV w.heap.size (w.heap.size + 1) (w.heap.size + 1 + 1) (w.heap.size + 1 + 1 + 1) L.g 0, stepV w.heap.size (w.heap.size + 1) (w.heap.size + 1 + 1) (w.heap.size + 1 + 1 + 1) L.g 1, stepV w.heap.size (w.heap.size + 1) (w.heap.size + 1 + 1) (w.heap.size + 1 + 1 + 1) L.g 2, stepV w.heap.size (w.heap.size + 1) (w.heap.size + 1 + 1) (w.heap.size + 1 + 1 + 1) L.g 3] 40) = V at *
  have hCA : ∀ q, Fr CD V W3 q → CD q ∨ w.heap.size ≤ q := fun q hq => by rcases hq with h | h; exact .inl h; exact .inr (Nat.le_trans hsV h.1)
  have hCB : ∀ q, q < w.heap.size → ¬ CD q → ¬ Fr CD V W3 q := fun q hq h1 h2 => by rcases h2 with h | h; exact h1 h; omega
  clear HCH HCH2 HCE hS0 hS1 hS3 hkG hX1 hD1 hL1 hbG hc3 hC3 hB4
  obtain ⟨E, t2⟩ := R
  dsimp only at hO3 hL3 ⊢
  by_cases hE : E = 0
  · have b1 : (E != 0) = false := by rw [hE]; rfl
    have hdE : decide (E ≠ 0) = false := by rw [hE]; rfl
    rw [hdE] at hL3
    have HE : Hid (E = 0) := hE
    clear hE hdE
    have hx : Blk W3 G 57 (logC L.g size n gen len bg false (.slice ta tl tc)) := hL3
    unfold logC at hx
    have x2 := hx.cell (j := 2) rfl
    have x3 := hx.cell (j := 3) rfl
    have x4 := hx.cell (j := 4) rfl
    have f2 := hx.frozen 2
    have f3 := hx.frozen 3
    have f4 := hx.frozen 4
    have kl := hX3.l.cell (j := 0) rfl
    have kn0 := hX3.n.cell (j := 0) rfl
    have kn1 := hX3.n.cell (j := 1) rfl
    have kn2 := hX3.n.cell (j := 2) rfl
    have hne1 : w.heap.size + 1 ≠ G := by omega
    have hL4 : LogB (((W3.setCell ⟨G, 2, none⟩ (.int .i64 (N : Int))).setCell ⟨G, 3, none⟩ (.int .i64 (g : Int))).setCell ⟨G, 4, none⟩ (.int .i64 (b.length : Int))) G L.g size N g b.length bg false (.slice ta tl tc) := (((hx.set 2 _).set 3 _).set 4 _).of_eq rfl
    have hc4 : Chg (fun q => q = G) W3 (((W3.setCell ⟨G, 2, none⟩ (.int .i64 (N : Int))).setCell ⟨G, 3, none⟩ (.int .i64 (g : Int))).setCell ⟨G, 4, none⟩ (.int .i64 (b.length : Int))) := (((Chg.refl (fun q => q = G) W3).setCell G 2 _ (fun _ => rfl)).setCell G 3 _ (fun _ => rfl)).setCell G 4 _ (fun _ => rfl)
    go_wp2_with fail
    generalize ((W3.setCell ⟨G, 2, none⟩ (.int .i64 (N : Int))).setCell ⟨G, 3, none⟩ (.int .i64 (g : Int))).setCell ⟨G, 4, none⟩ (.int .i64 (b.length : Int)) = W4 at *
    clear x2 x3 x4 f2 f3 f4 kl kn0 kn1 kn2 hx
    have hO4 : OD W4 L (Fr CD V W3) t2 := hO3.chg hc4 (fun q hq e => by subst e; exact hCB q hGl hG hq)
    have hX4 := hX3.chgG hc4 (fun q hq => .inr hq) (by omega)
    have hC4 : Chg (fun q => CD q ∨ q = G) w W4 := hCw.trans hc4 (fun _ _ h => .inr h)
    have hL4' : LogB W4.drew G L.g size N g b.length bg false (.slice ta tl tc) := Blk.drew hL4
    obtain ⟨RM, hRM⟩ : ∃ RM, RM = b.length % 128 := ⟨_, rfl⟩
    have hxl := HXL.out
    obtain ⟨LO, hLO⟩ : ∃ LO, LO = LB - RM := ⟨_, rfl⟩
    have HRM : Hid (Int.tmod (b.length : Int) 128 = (RM : Int)) := by show _ = _; rw [Int.tmod_eq_emod_of_nonneg (by omega)]; omega
    have HLO : Hid ((LB : Int) - (RM : Int) = (LO : Int) ∧ -9223372036854775808 ≤ (LO : Int) ∧ (LO : Int) < 9223372036854775808) := by refine ⟨?_, ?_, ?_⟩ <;> omega
    have l7 := slice_restD ax LB cx LO (by omega)
    have hsg : Seg W4.drew (.slice ax LB cx) (b.drop (I * 128)) := (HX.out.1.chg hC4 HX.out.2).drew
    have hdr : (b.drop (I * 128)).drop LO = b.drop (b.length / 128 * 128) := by rw [List.drop_drop]; congr 1; omega
    have hs7 := hsg.dropsD LO (by omega)
    rw [hdr] at hs7
    have HCL : Calls Try.prog 43 #[.slice (restD ax cx LO) (LB - LO) (cx - LO)] W4.drew fun e w' => ∃ v, e = .returned v ∧ Own w' W4.drew.heap.size v (b.drop (b.length / 128 * 128)) ∧ Below W4.drew.heap.size W4.drew w' := bclone_any _ _ _ (by rw [List.length_drop]; omega) hs7
    have HT : Hid (∀ W : World, Below W4.drew.heap.size W4.drew W → W.cell? ⟨w.heap.size, 0, none⟩ = some (.pointer (some ⟨G, 0, none⟩)) ∧ W.cell? ⟨w.heap.size + 1 + 1 + 1, 0, none⟩ = some (.slice ax LB cx) ∧ W.cell? ⟨w.heap.size + 1, 2, none⟩ = some (.int .i64 (b.length : Int))) := fun W hW => ⟨(hX4.l.drew.below hW hX4.l.lt).cell rfl, (hX4.b.drew.below hW hX4.b.lt).cell rfl, (hX4.n.drew.below hW hX4.n.lt).cell rfl⟩
    have hT0 := HT.out W4.drew (Below.refl _ _)
    have HT6 : Hid (∀ (W : World) (v : Value), (W.cell? ⟨w.heap.size, 0, none⟩ = some (.pointer (some ⟨G, 0, none⟩)) ∧ W.cell? ⟨w.heap.size + 1 + 1 + 1, 0, none⟩ = some (.slice ax LB cx) ∧ W.cell? ⟨w.heap.size + 1, 2, none⟩ = some (.int .i64 (b.length : Int))) → (W.setCell ⟨G, 7, none⟩ v).cell? ⟨w.heap.size, 0, none⟩ = some (.pointer (some ⟨G, 0, none⟩)) ∧ (W.setCell ⟨G, 7, none⟩ v).cell? ⟨w.heap.size + 1 + 1 + 1, 0, none⟩ = some (.slice ax LB cx) ∧ (W.setCell ⟨G, 7, none⟩ v).cell? ⟨w.heap.size + 1, 2, none⟩ = some (.int .i64 (b.length : Int))) := fun W v hW => by
      have k : ∀ q o, G < q → (W.setCell ⟨G, 7, none⟩ v).cell? ⟨q, o, none⟩ = W.cell? ⟨q, o, none⟩ := fun q o hq => World.cell?_of_block (Below.heap_setCell W ⟨G, 7, none⟩ v q (by show q ≠ G; omega))
      exact ⟨by rw [k _ _ (by omega)]; exact hW.1, by rw [k _ _ (by omega)]; exact hW.2.1, by rw [k _ _ (by omega)]; exact hW.2.2⟩
    generalize restD ax cx LO = ra at *
    clear hxl hLO hRM hdr hs7 hsg
    refine held_begin (fun V => V.cell? ⟨w.heap.size, 0, none⟩ = some (.pointer (some ⟨G, 0, none⟩)) ∧ V.cell? ⟨w.heap.size + 1 + 1 + 1, 0, none⟩ = some (.slice ax LB cx) ∧ V.cell? ⟨w.heap.size + 1, 2, none⟩ = some (.int .i64 (b.length : Int))) (by kernel_rfl) ?_
    refine held_take 0 36 _ (.pointer (some ⟨G, 0, none⟩)) rfl rfl (by kernel_rfl) (by kernel_rfl) (by kernel_rfl) rfl hT0 (fun V hV => exec_loadc 29 _ rfl _ _ rfl (load_one 29 (fun _ => by kernel_rfl) V _ _ _ hV.1)) ?_
    simp only [Act.put, List.setIfInBounds_toArray, List.set_cons_succ, List.set_cons_zero]
    refine held_take 1 37 _ (.slice ax LB cx) rfl rfl (by kernel_rfl) (by kernel_rfl) (by kernel_rfl) rfl hT0 (fun V hV => exec_loadc 30 _ rfl _ _ rfl (load_one 30 (fun _ => by kernel_rfl) V _ _ _ hV.2.1)) ?_
    simp only [Act.put, List.setIfInBounds_toArray, List.set_cons_succ, List.set_cons_zero]
    refine held_take 2 38 _ (.slice ax LB cx) rfl rfl (by kernel_rfl) (by kernel_rfl) (by kernel_rfl) rfl hT0 (fun V hV => exec_loadc 30 _ rfl _ _ rfl (load_one 30 (fun _ => by kernel_rfl) V _ _ _ hV.2.1)) ?_
    simp only [Act.put, List.setIfInBounds_toArray, List.set_cons_succ, List.set_cons_zero]
    refine held_take 3 39 _ (.int .i64 (LB : Int)) rfl rfl (by kernel_rfl) (by kernel_rfl) (by kernel_rfl) rfl hT0 (fun V _ => exec_len _ rfl ax LB cx rfl) ?_
    simp only [Act.put, List.setIfInBounds_toArray, List.set_cons_succ, List.set_cons_zero]
    refine held_take 4 40 _ (.pointer (some ⟨w.heap.size + 1, 2, none⟩)) rfl rfl (by kernel_rfl) (by kernel_rfl) (by kernel_rfl) rfl hT0 (fun _ _ => rfl) ?_
    simp only [Act.put, List.setIfInBounds_toArray, List.set_cons_succ, List.set_cons_zero]
    refine held_take 5 41 _ (.int .i64 (b.length : Int)) rfl rfl (by kernel_rfl) (by kernel_rfl) (by kernel_rfl) rfl hT0 (fun V hV => exec_loadc 3 _ rfl _ _ rfl (load_one 3 (fun _ => by kernel_rfl) V _ _ _ hV.2.2)) ?_
    simp only [Act.put, List.setIfInBounds_toArray, List.set_cons_succ, List.set_cons_zero]
    refine held_take 6 42 _ (.int .i64 (RM : Int)) rfl rfl (by kernel_rfl) (by kernel_rfl) (by kernel_rfl) rfl hT0 (fun V _ => exec_rem7 _ _ _ rfl (b.length : Int) 128 _ rfl rfl (by decide) HRM.out) ?_
    simp only [Act.put, List.setIfInBounds_toArray, List.set_cons_succ, List.set_cons_zero]
    refine held_take 7 43 _ (.int .i64 (LO : Int)) rfl rfl (by kernel_rfl) (by kernel_rfl) (by kernel_rfl) rfl hT0 (fun V _ => exec_sub7 _ _ _ rfl (LB : Int) (RM : Int) _ rfl rfl HLO.out) ?_
    simp only [Act.put, List.setIfInBounds_toArray, List.set_cons_succ, List.set_cons_zero]
    refine held_take 8 44 _ (.slice ra (LB - LO) (cx - LO)) rfl rfl (by kernel_rfl) (by kernel_rfl) (by kernel_rfl) rfl hT0 (fun V _ => exec_slice7 _ _ _ _ rfl (.slice ax LB cx) _ (some (.int .i64 (LO : Int))) none none rfl rfl rfl rfl (l7 V)) ?_
    simp only [Act.put, List.setIfInBounds_toArray, List.set_cons_succ, List.set_cons_zero]
    refine held_all1 9 (by kernel_rfl) (op_call 9 45 _ 43 #[.slice ra (LB - LO) (cx - LO)] rfl rfl rfl (exec_one 43 _ _ rfl _ rfl Try.call43) (HCL.mono ?_))
    rintro e W5 ⟨v45, rfl, ho45, hb45⟩
    obtain ⟨a45, c45, rfl⟩ := Seg.shapeD ho45.seg
    obtain ⟨n45, hn45⟩ : ∃ n45, n45 = (b.drop (b.length / 128 * 128)).length := ⟨_, rfl⟩
    rw [← hn45] at ho45 ⊢
    clear hn45
    have hT5 := HT.out W5 hb45
    have hL5 := Blk.below hL4' hb45 (Blk.lt hL4')
    have x7 : W5.cell? ⟨G, 7, none⟩ = some (.slice ta tl tc) := hL5.cell (j := 7) rfl
    have f7 := Blk.frozen hL5 7
    refine ⟨_, rfl, hT5, ?_⟩
    simp only [Act.put, List.setIfInBounds_toArray, List.set_cons_succ, List.set_cons_zero]
    refine held_take 10 46 _ (.pointer (some ⟨G, 0, none⟩)) rfl rfl (by kernel_rfl) (by kernel_rfl) (by kernel_rfl) rfl hT5 (fun _ _ => rfl) ?_
    simp only [Act.put, List.setIfInBounds_toArray, List.set_cons_succ, List.set_cons_zero]
    refine held_take 11 47 _ (.pointer (some ⟨G, 7, none⟩)) rfl rfl (by kernel_rfl) (by kernel_rfl) (by kernel_rfl) rfl hT5 (fun _ _ => rfl) ?_
    simp only [Act.put, List.setIfInBounds_toArray, List.set_cons_succ, List.set_cons_zero]
    have hT6 := HT6.out W5 (.slice a45 n45 c45) hT5
    refine held_all1 12 (by kernel_rfl) (op_skip 12 _ _ rfl rfl rfl (exec_stores _ _ rfl G 7 a45 n45 c45 _ rfl rfl x7 f7) ⟨hT6, ?_⟩)
    refine wpAnyH_done (by kernel_rfl) ?_ _
    refine NoPanic.normal ?_
    go_wp2_with fail
    go_ret
    dsimp only
    have hc6 : Chg (fun q => q = G) W5 (W5.setCell ⟨G, 7, none⟩ (.slice a45 n45 c45)) := (Chg.refl (fun q => q = G) W5).setCell G 7 _ (fun _ => rfl)
    have hO5 : OD W5 L (Fr CD V W3) t2 := (hO4.after ((Below.refl _ W4).drew)).after hb45
    have hL6 : LogB (W5.setCell ⟨G, 7, none⟩ (.slice a45 n45 c45)) G L.g size N g b.length bg false (.slice a45 n45 c45) := (Blk.set hL5 7 _).of_eq rfl
    refine ⟨by rw [HE.out]; rfl, Fr CD V W3, hO5.chg hc6 (fun q hq e => by subst e; exact hCB q hGl hG hq), hCA, hCB, (hC4.drew.trans (Chg.of_below (S := fun q => CD q ∨ q = G) hb45 (Nat.le_refl _)) (fun _ _ h => h)).trans hc6 (fun _ _ h => .inr h), .inr ⟨HE.out, .slice a45 n45 c45, hL6, ?_, ?_⟩⟩
    · have := ho45.chg hc6 (fun k hk e => by have h1 := (ho45.blocks k hk).1; have h2 : G < W4.drew.heap.size := Blk.lt hL4'; omega)
      exact this.mono (Nat.le_trans hC4.size (Nat.le_refl _))
    · intro q hq e
      have h1 := (ho45.blocks q hq).1
      have h2 : W3.heap.size ≤ W4.drew.heap.size := hc4.size
      rcases e with e | e
      · have := hlt q e
        have := hCw.size
        omega
      · omega
  · have b1 : (E != 0) = true := by simp [hE]
    have hdE : decide (E ≠ 0) = true := decide_eq_true hE
    rw [hdE] at hL3
    have HE : Hid (E ≠ 0) := hE
    clear hE hdE
    go_wp2_with fail
    go_ret
    exact ⟨rfl, Fr CD V W3, hO3, hCA, hCB, hCw, .inl ⟨HE.out, hL3⟩⟩
end Go.Proofs.Ytcfnbmphonkbpaa
