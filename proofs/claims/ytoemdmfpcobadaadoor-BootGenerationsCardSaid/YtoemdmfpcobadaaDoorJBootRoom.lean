/-
  What is proved here: Keeper.room tells the first free place behind the last entry, in its block; where there is none, the other block is erased, and it is its first place.
  Conditions: the keeper and its flash lie in memory, and the two blocks are there.
-/
import Derived.Test.YtoemdmfpcobadaaDoorJBootRead
namespace Go.Proofs.YtoemdmfpcobadaaDoor
open Go.RowKit
attribute [local go_sem] Oper.semAt_some

theorem keeps_chg9 {S : Nat → Prop} {W W' : World} (B : Nat) (hc : Chg S W W') (hS : ∀ k, S k → ∀ o, W.heap[k]? = some o → o.isCells = true) : KeepsFrom B W W' :=
  ⟨hc.size, fun k o _ hk ho => by
    rw [hc.2 k (Array.getElem?_eq_some_iff.1 hk).1 (fun e => by have := hS k e o hk; rw [this] at ho; cases ho)]
    exact hk⟩
theorem blk_isCells9 {w : World} {g : Nat} {t : TypeId} {arr : Array Value} (h : Blk w g t arr) (o : Obj) (ho : w.heap[g]? = some o) : o.isCells = true := by
  rw [show w.heap[g]? = _ from h] at ho
  cases ho
  rfl
theorem exec_storeE9 {a : Act} {o : Oper} {w : World} (x y : Operand) (ho : o.op = .store 26 x y) (g i : Nat) (z : Int) (u : Value) (hx : a.eval x = .pointer (some ⟨g, i, none⟩)) (hy : a.eval y = .int .i64 z) (hc : w.cell? ⟨g, i, none⟩ = some u) (hf : w.frozen? ⟨g, i, none⟩ = false) : (execOp a.eval o).run Tryd.prog w = .ok .skip (w.setCell ⟨g, i, none⟩ (.int .i64 z)) := by
  unfold execOp
  simp only [ho, hx, hy]
  simp [go_sem, hc, hf]
def freeI (b : List UInt8) (la : Int) (i : Nat) : Bool := decide (la < (i : Int)) && (cellB b i).all (· == 255)
theorem roomI_none {b : List UInt8} {la : Int} (h : ∀ i ∈ List.range 32, freeI b la i = false) : roomI b la = none := by
  unfold roomI
  rw [List.find?_eq_none]
  intro i hi
  have := h i hi
  unfold freeI at this
  rw [this]
  decide
theorem roomI_some {b : List UInt8} {la : Int} {k i : Nat} {q : List Nat} (hk : k ≤ 32) (hr : List.range k = q ++ [i]) (h : ∀ x ∈ q, freeI b la x = false) (hi : freeI b la i = true) : roomI b la = some i := by
  unfold roomI
  have h32 : List.range 32 = q ++ ([i] ++ (List.range' k (32 - k))) := by
    rw [← List.append_assoc, ← hr, List.range_eq_range', List.range_eq_range']
    have := List.range'_append (s := 0) (m := k) (n := 32 - k) (step := 1)
    rw [Nat.zero_add, Nat.one_mul, show k + (32 - k) = 32 by omega] at this
    exact this.symm
  rw [h32, List.find?_append, List.find?_eq_none.2 (fun x hx => by have := h x hx; unfold freeI at this; rw [this]; decide)]
  unfold freeI at hi
  simp [hi]
theorem room_results (tmps : Array Value) (W : World) (p q : Nat) (x y u : Value) (hp : tmps.getD 2 undef = .pointer (some ⟨p, 0, none⟩)) (hq : tmps.getD 3 undef = .pointer (some ⟨q, 0, none⟩)) (h0 : Blk W p 68 #[x, y]) (h1 : W.cell? ⟨q, 0, none⟩ = some u) :
    (results Tryd.f52 tmps).run Tryd.prog W = .ok (.tuple #[.agg #[x, y], u]) W := by
  have hp' : tmps[2]?.getD undef = .pointer (some ⟨p, 0, none⟩) := by simpa using hp
  have hq' : tmps[3]?.getD undef = .pointer (some ⟨q, 0, none⟩) := by simpa using hq
  have h2 := h0.cell (j := 0) rfl
  have h3 := h0.cell (j := 1) rfl
  simp [results, Tryd.results52, go_sem, hp', hq', h1, h2, h3]
def roomE (k : KS) (j : Nat) (s : FS) : (Nat × Nat) × Int × FS := if s.down then ((0, 0), 7, s) else match roomI (blkB s (j + k.wh)) k.la with
  | some i => ((k.wh, i), 0, s)
  | none => ((1 - k.wh, 0), (eraseF s ((j + (1 - k.wh) : Nat) : Int)).1, (eraseF s ((j + (1 - k.wh) : Nat) : Int)).2)

set_option maxRecDepth 100000 in
set_option maxHeartbeats 4000000 in
theorem room9_any (L : PLay6) (s : FS) (g j : Nat) (k : KS) (w : World) (hK : Blk w g 71 (kpC L j k)) (hg : ¬ L.T g) (hD : PFlash w L s) (hj : j + 1 < L.n) (hw : k.wh ≤ 1) :
    Calls Tryd.prog 52 #[.pointer (some ⟨g, 0, none⟩)] w fun e w' => e = .returned (.tuple #[.agg #[.int .i64 ((roomE k j s).1.1 : Int), .int .i64 ((roomE k j s).1.2 : Int)], .int .i64 (roomE k j s).2.1]) ∧ PFlash w' L (roomE k j s).2.2 ∧ Chg L.T w w' := by
  have hB0 := (((Below.refl w.heap.size w).alloc (Nat.le_refl _) (.cells #[.pointer (some ⟨g, 0, none⟩)] 32)).alloc (by simp) (.cells #[.int .i64 0, .int .i64 0] 68)).alloc (by simp; omega) (.cells #[.int .i64 0] 26)
  have k0 : Blk (((w.alloc (.cells #[.pointer (some ⟨g, 0, none⟩)] 32)).alloc (.cells #[.int .i64 0, .int .i64 0] 68)).alloc (.cells #[.int .i64 0] 26)) w.heap.size 32 #[.pointer (some ⟨g, 0, none⟩)] := ((Blk.new w _ _).alloc _).alloc _
  have k1 : Blk (((w.alloc (.cells #[.pointer (some ⟨g, 0, none⟩)] 32)).alloc (.cells #[.int .i64 0, .int .i64 0] 68)).alloc (.cells #[.int .i64 0] 26)) (w.heap.size + 1) 68 #[.int .i64 0, .int .i64 0] := (Blk.newAt _ _ _ _ (by simp)).alloc _
  have k2 : Blk (((w.alloc (.cells #[.pointer (some ⟨g, 0, none⟩)] 32)).alloc (.cells #[.int .i64 0, .int .i64 0] 68)).alloc (.cells #[.int .i64 0] 26)) (w.heap.size + 1 + 1) 26 #[.int .i64 0] := Blk.newAt _ _ _ _ (by simp)
  have hK0 := hK.below hB0 hK.lt
  have hD0 := thePF.after hD hB0
  have hglt := hK.lt
  have hlw := hD.lt
  have hcap := hD.ok.cap
  have hok := hD.ok
  obtain ⟨W0, hW0⟩ : ∃ W0, W0 = ((w.alloc (.cells #[.pointer (some ⟨g, 0, none⟩)] 32)).alloc (.cells #[.int .i64 0, .int .i64 0] 68)).alloc (.cells #[.int .i64 0] 26) := ⟨_, rfl⟩
  have HRD : Hid (Calls Tryd.prog 48 #[.pointer (some ⟨g, 0, none⟩), .int .i64 (k.wh : Int)] W0.drew fun e w' => ∃ v, e = .returned (.tuple #[v, .int .i64 (lookE s)]) ∧ Own w' W0.heap.size v (lookB s (j + k.wh)) ∧ Below W0.heap.size W0 w') := by
    rw [hW0]
    exact (read9_any L s g j k.wh k _ hK0.drew (thePF.after hD0 (Below.refl _ _).drew) (by omega)).mono fun e w' ⟨v, h1, h2, h3⟩ => ⟨v, h1, h2, ((Below.refl _ _).drew).trans h3⟩
  have HCL : Hid (∀ V, Below W0.heap.size W0 V → V.cell? ⟨w.heap.size, 0, none⟩ = some (.pointer (some ⟨g, 0, none⟩)) ∧ V.cell? ⟨g, 8, none⟩ = some (.int .i64 (k.wh : Int))) := by
    rw [hW0]
    exact fun V hV => ⟨(k0.below hV k0.lt).cell (j := 0) rfl, (hK0.below hV hK0.lt).cell (j := 8) rfl⟩
  have hS0 := HCL.out W0.drew (Below.refl _ _).drew
  rw [← hW0] at k0 k1 k2 hB0 hK0 hD0
  have hs0 : W0.heap.size = w.heap.size + 1 + 1 + 1 := by rw [hW0]; simp
  have hfn : Fence.wide.fn 59 := trivial
  have hfn2 : Fence.wide.fn 61 := trivial
  clear hK hD
  refine (callsIn_wide (n := 6)).1 ?_
  refine callsIn_of_wp_marks Tryd.func52 rfl trivial ?_ rfl
  simp only [Tryd.ntmps52, List.size_toArray, List.length_cons, List.length_nil, Nat.reduceAdd, Nat.reduceSub, Array.replicate_succ, Array.replicate_zero, List.push_toArray, List.append_toArray, List.nil_append, List.cons_append]
  gi_wp2_with fail
  rw [← hW0]
  clear hW0
  refine wpIn_wide.2 ?_
  refine held_begin (fun V => V.cell? ⟨w.heap.size, 0, none⟩ = some (.pointer (some ⟨g, 0, none⟩)) ∧ V.cell? ⟨g, 8, none⟩ = some (.int .i64 (k.wh : Int))) (by kernel_rfl) ?_
  refine held_take 0 10 _ (.pointer (some ⟨g, 0, none⟩)) rfl rfl (by kernel_rfl) (by kernel_rfl) (by kernel_rfl) rfl hS0 (fun V hV => exec_loadc 32 _ rfl _ _ rfl (load_one 32 (fun _ => by kernel_rfl) V _ _ _ hV.1)) ?_
  simp only [Act.put, List.setIfInBounds_toArray, List.set_cons_succ, List.set_cons_zero]
  refine held_take 1 11 _ (.pointer (some ⟨g, 0, none⟩)) rfl rfl (by kernel_rfl) (by kernel_rfl) (by kernel_rfl) rfl hS0 (fun V hV => exec_loadc 32 _ rfl _ _ rfl (load_one 32 (fun _ => by kernel_rfl) V _ _ _ hV.1)) ?_
  simp only [Act.put, List.setIfInBounds_toArray, List.set_cons_succ, List.set_cons_zero]
  refine held_take 2 12 _ (.pointer (some ⟨g, 0, none⟩)) rfl rfl (by kernel_rfl) (by kernel_rfl) (by kernel_rfl) rfl hS0 (fun _ _ => rfl) ?_
  simp only [Act.put, List.setIfInBounds_toArray, List.set_cons_succ, List.set_cons_zero]
  refine held_take 3 13 _ (.pointer (some ⟨g, 8, none⟩)) rfl rfl (by kernel_rfl) (by kernel_rfl) (by kernel_rfl) rfl hS0 (fun _ _ => rfl) ?_
  simp only [Act.put, List.setIfInBounds_toArray, List.set_cons_succ, List.set_cons_zero]
  refine held_take 4 14 _ (.pointer (some ⟨g, 8, none⟩)) rfl rfl (by kernel_rfl) (by kernel_rfl) (by kernel_rfl) rfl hS0 (fun _ _ => rfl) ?_
  simp only [Act.put, List.setIfInBounds_toArray, List.set_cons_succ, List.set_cons_zero]
  refine held_take 5 15 _ (.int .i64 (k.wh : Int)) rfl rfl (by kernel_rfl) (by kernel_rfl) (by kernel_rfl) rfl hS0 (fun V hV => exec_loadc 3 _ rfl _ _ rfl (load_one 3 (fun _ => by kernel_rfl) V _ _ _ hV.2)) ?_
  simp only [Act.put, List.setIfInBounds_toArray, List.set_cons_succ, List.set_cons_zero]
  refine held_all1 6 (by kernel_rfl) (op_call 6 16 _ 48 #[.pointer (some ⟨g, 0, none⟩), .int .i64 (k.wh : Int)] rfl rfl rfl (exec_two8 48 _ _ _ rfl _ _ rfl rfl Tryd.call48) (HRD.out.mono ?_))
  rintro e W1 ⟨v1, rfl, ho1, hb1⟩
  have hB1 : Below w.heap.size w W1 := hB0.trans (hb1.mono hB0.size)
  have hS1 := HCL.out W1 hb1
  refine ⟨_, rfl, hS1, ?_⟩
  simp only [Act.put, List.setIfInBounds_toArray, List.set_cons_succ, List.set_cons_zero]
  refine held_take 7 9 _ (.tuple #[v1, .int .i64 (lookE s)]) rfl rfl (by kernel_rfl) (by kernel_rfl) (by kernel_rfl) rfl hS1 (fun _ _ => rfl) ?_
  simp only [Act.put, List.setIfInBounds_toArray, List.set_cons_succ, List.set_cons_zero]
  refine held_take 8 17 _ (v1) rfl rfl (by kernel_rfl) (by kernel_rfl) (by kernel_rfl) rfl hS1 (fun _ _ => rfl) ?_
  simp only [Act.put, List.setIfInBounds_toArray, List.set_cons_succ, List.set_cons_zero]
  refine held_take 9 18 _ (.int .i64 (lookE s)) rfl rfl (by kernel_rfl) (by kernel_rfl) (by kernel_rfl) rfl hS1 (fun _ _ => rfl) ?_
  simp only [Act.put, List.setIfInBounds_toArray, List.set_cons_succ, List.set_cons_zero]
  refine held_take 10 4 _ (v1) rfl rfl (by kernel_rfl) (by kernel_rfl) (by kernel_rfl) rfl hS1 (fun _ _ => rfl) ?_
  simp only [Act.put, List.setIfInBounds_toArray, List.set_cons_succ, List.set_cons_zero]
  refine held_take 11 5 _ (.int .i64 (lookE s)) rfl rfl (by kernel_rfl) (by kernel_rfl) (by kernel_rfl) rfl hS1 (fun _ _ => rfl) ?_
  simp only [Act.put, List.setIfInBounds_toArray, List.set_cons_succ, List.set_cons_zero]
  refine wpAnyH_done (by kernel_rfl) ?_ _
  refine NoPanic.normal ?_
  have m0 := k0.below hb1 k0.lt
  have m1 := k1.below hb1 k1.lt
  have m2 := k2.below hb1 k2.lt
  clear HRD HCL hS0 hS1
  obtain ⟨a1, c1, hv1⟩ := ho1.seg.shapeD
  subst hv1
  by_cases hdn : s.down = true
  · have e1 : lookE s = 7 := by unfold lookE; rw [if_pos hdn]
    have HRE : Hid (roomE k j s = ((0, 0), 7, s)) := by show _ = _; unfold roomE; rw [if_pos hdn]
    have hD1 := thePF.after hD0 hb1
    rw [e1]
    clear e1
    have hkA := m1
    have c20 := m2.cell (j := 0) rfl
    have f20 := m2.frozen 0
    have c10 := m1.cell (j := 0) rfl
    have f10 := m1.frozen 0
    have c11 := m1.cell (j := 1) rfl
    have f11 := m1.frozen 1
    have hcW : Chg (fun q => q = w.heap.size + 1 ∨ q = w.heap.size + 1 + 1) W1 (((W1.setCell ⟨w.heap.size + 1, 0, none⟩ (.int .i64 0)).setCell ⟨w.heap.size + 1, 1, none⟩ (.int .i64 0)).setCell ⟨w.heap.size + 1 + 1, 0, none⟩ (.int .i64 7)) := (((Chg.refl (fun q => q = w.heap.size + 1 ∨ q = w.heap.size + 1 + 1) W1).setCell (w.heap.size + 1) 0 _ (fun _ => .inl rfl)).setCell (w.heap.size + 1) 1 _ (fun _ => .inl rfl)).setCell (w.heap.size + 1 + 1) 0 _ (fun _ => .inr rfl)
    have y1 : Blk (((W1.setCell ⟨w.heap.size + 1, 0, none⟩ (.int .i64 0)).setCell ⟨w.heap.size + 1, 1, none⟩ (.int .i64 0)).setCell ⟨w.heap.size + 1 + 1, 0, none⟩ (.int .i64 7)) (w.heap.size + 1) 68 #[.int .i64 0, .int .i64 0] := ((m1.set 0 (.int .i64 0)).set 1 (.int .i64 0)).setOther _ _ (by show w.heap.size + 1 ≠ w.heap.size + 1 + 1; omega)
    have y2 : Blk (((W1.setCell ⟨w.heap.size + 1, 0, none⟩ (.int .i64 0)).setCell ⟨w.heap.size + 1, 1, none⟩ (.int .i64 0)).setCell ⟨w.heap.size + 1 + 1, 0, none⟩ (.int .i64 7)) (w.heap.size + 1 + 1) 26 #[.int .i64 7] := ((m2.setOther _ _ (by show w.heap.size + 1 + 1 ≠ w.heap.size + 1; omega)).setOther _ _ (by show w.heap.size + 1 + 1 ≠ w.heap.size + 1; omega)).set 0 (.int .i64 7)
    gi_wp2
    (try simp only [Exit.noGoto])
    refine ⟨_, room_results _ _ _ _ _ _ _ rfl rfl y1 (y2.cell (j := 0) rfl), ?_⟩
    rw [HRE.out]
    exact ⟨rfl, hD1.chg hcW (fun q hq e => by have := hlw q hq; omega), Chg.of_below (hB1.trans (hcW.below (B := w.heap.size) (fun k hk => by omega) hB1.size)) (Nat.le_refl _)⟩
  · have e1 : lookE s = 0 := by unfold lookE; rw [if_neg hdn]
    have e2 : lookB s (j + k.wh) = blkB s (j + k.wh) := by unfold lookB; rw [if_neg hdn]
    have hbl := blkB_len hok (j := j + k.wh) (by omega)
    have HRE : Hid (roomE k j s = match roomI (blkB s (j + k.wh)) k.la with
      | some i => ((k.wh, i), 0, s)
      | none => ((1 - k.wh, 0), (eraseF s ((j + (1 - k.wh) : Nat) : Int)).1, (eraseF s ((j + (1 - k.wh) : Nat) : Int)).2)) := by show _ = _; unfold roomE; rw [if_neg hdn]
    rw [e2, hbl] at ho1
    rw [e1, e2, hbl]
    clear e1 e2 hbl
    generalize blkB s (j + k.wh) = b at *
    have hc1 : 1024 ≤ c1 := by
      obtain ⟨_, _, _, hcc, _, _⟩ := ho1.seg.formD (by decide)
      exact hcc
    gi_wp2_with fail
    refine (callsIn_wide.2 (places_any a1 1024 c1 W1)).mono ?_
    rintro e W3 ⟨rfl, hW3⟩
    have hcell3 : W3.cell? ⟨W1.heap.size, 0, none⟩ = some (.slice a1 1024 c1) := by rw [hW3]; exact (Blk.new W1 _ _).cell rfl
    have hs3 : W1.heap.size < W3.heap.size := by rw [hW3]; simp
    have hb3 : Below W1.heap.size W1 W3 := by rw [hW3]; exact (Below.refl _ _).alloc (Nat.le_refl _) _
    clear hW3
    have hB3 : Below w.heap.size w W3 := hB1.trans (hb3.mono hB1.size)
    have n0 := m0.below hb3 m0.lt
    have n1 := m1.below hb3 m1.lt
    have n2 := m2.below hb3 m2.lt
    have hK3 := (hK0.below hb1 hK0.lt).below hb3 (Nat.lt_of_lt_of_le hK0.lt hb1.size)
    have hD3 := thePF.after (thePF.after hD0 hb1) hb3
    have hseg3 : Seg W3 (.slice a1 1024 c1) b := ho1.seg.below hb3 (Nat.le_refl _)
    have hlt1 : w.heap.size + 1 + 1 < W1.heap.size := m2.lt
    clear m0 m1 m2 hK0 hD0 ho1 hb1 hb3 hB1 k0 k1 k2 hB0
    gi_wp2_with fail
    have hSb : ∀ {q}, W3.heap.size ≤ q → ¬ q < W3.heap.size := fun h => by omega
    refine wpIn_rangeFunc_ownG rfl (by decide) (gf := 66) (lb := #[.pointer (some ⟨W1.heap.size, 0, none⟩)]) rfl trivial (enters_of Tryd.func66 (by kernel_rfl) rfl)
      (places_stops 5 (by decide) W1.heap.size (fun q => W3.heap.size ≤ q) a1 c1 hc1 (by show ¬ W3.heap.size ≤ W1.heap.size; omega) W3 (by omega) hcell3) (fun h k => h.trans k (fun _ _ h => h)) (fun W l o o' hl _ _ _ => Chg.of_grown (grownBy_putObj' W l o') (fun k e => by cases e; exact hl)) (Below.refl _ _) (fun _ => rfl)
      (fun pre W => (∀ i ∈ nums pre, freeI b k.la i = false) ∧ Chg (fun q => W3.heap.size ≤ q) W3 W)
      (fun c pre W => c = .ret ∧ ∃ q i, nums pre = q ++ [i] ∧ (∀ x ∈ q, freeI b k.la x = false) ∧ freeI b k.la i = true ∧ Blk W (w.heap.size + 1) 68 #[.int .i64 (k.wh : Int), .int .i64 (i : Int)] ∧ Blk W (w.heap.size + 1 + 1) 26 #[.int .i64 0] ∧ Chg (fun q => W3.heap.size ≤ q ∨ q = w.heap.size + 1 ∨ q = w.heap.size + 1 + 1) W3 W)
      (fun pre W W' row ⟨h1, h2⟩ hg hr => ⟨h1, h2.trans (Chg.of_grown (S := fun q => W3.heap.size ≤ q) hg (fun k e => (hr k e).1)) (fun _ _ h => h)⟩)
      (fun c pre W W' row ⟨h0, q, i, h1, h2, h3, h4, h5, h6⟩ hg hr => ⟨h0, q, i, h1, h2, h3, h4.grown hg (fun e => by have := (hr _ e.symm).1; omega), h5.grown hg (fun e => by have := (hr _ e.symm).1; omega), h6.trans (Chg.of_grown (S := fun q => W3.heap.size ≤ q) hg (fun k e => (hr k e).1)) (fun _ _ h => .inl h)⟩)
      ⟨(fun i hi => by cases hi), Chg.refl _ _⟩
      (fun x => { tmps := #[.pointer (some ⟨g, 0, none⟩), .pointer (some ⟨w.heap.size, 0, none⟩), .pointer (some ⟨w.heap.size + 1, 0, none⟩), .pointer (some ⟨w.heap.size + 1 + 1, 0, none⟩), .slice a1 1024 c1, .int .i64 0, .int .i64 (x.val : Int), cellV a1 c1 x.val, undef, .tuple #[.slice a1 1024 c1, .int .i64 0], .pointer (some ⟨g, 0, none⟩), .pointer (some ⟨g, 0, none⟩), .pointer (some ⟨g, 0, none⟩), .pointer (some ⟨g, 8, none⟩), .pointer (some ⟨g, 8, none⟩), .int .i64 (k.wh : Int), .tuple #[.slice a1 1024 c1, .int .i64 0], .slice a1 1024 c1, .int .i64 0, .int .i64 0, .bool false, undef, undef, .slice a1 1024 c1, .func (.func 66) #[] #[.pointer (some ⟨W1.heap.size, 0, none⟩)], .int .i64 (x.val : Int), cellV a1 c1 x.val, undef, undef, undef, undef, undef, undef, undef, undef, undef, undef, undef, undef, undef, undef, undef, undef, undef, undef, undef, undef, undef, undef, undef, undef, undef, undef, undef, undef, undef, undef, undef, undef, undef, undef, undef, undef, undef], defers := [] }) ?assign ?body ?done ?stop
    case assign =>
      intro l x W K hK
      gi_wp2
      exact hK
    case body =>
      rintro l pre x W ⟨hall, hc⟩ hlt
      have hF : ∀ f, (Fence.wide.inRound l).fn f := fun _ => trivial
      obtain ⟨X, hX⟩ := x
      dsimp only
      have HSN : Hid (nums (pre ++ [⟨X, hX⟩]) = nums pre ++ [X]) := by show _ = _; unfold nums; rw [List.map_append]; rfl
      have p0 := n0.chg hc (by show ¬ W3.heap.size ≤ w.heap.size; omega)
      have p1 := n1.chg hc (by show ¬ W3.heap.size ≤ w.heap.size + 1; omega)
      have p2 := n2.chg hc (by show ¬ W3.heap.size ≤ w.heap.size + 1 + 1; omega)
      have pK := hK3.chg hc (by show ¬ W3.heap.size ≤ g; have := hB3.size; omega)
      have d0 := p0.cell (j := 0) rfl
      have d8 : W.cell? ⟨g, 8, none⟩ = some (.int .i64 (k.wh : Int)) := pK.cell (j := 8) rfl
      have d9 : W.cell? ⟨g, 9, none⟩ = some (.int .i64 k.la) := pK.cell (j := 9) rfl
      have hsx : Seg W (cellV a1 c1 X) (cellB b X) := seg_cell (hseg3.chg hc (fun _ q hq => by
        obtain ⟨b', off, rfl, _, _, hbl⟩ := hseg3.formD (by decide)
        obtain rfl : b' = q := Option.some.inj hq
        show ¬ W3.heap.size ≤ b'
        omega)) X hX
      have HA : Hid (Calls Tryd.prog 61 #[cellV a1 c1 X, .int .u8 255] W fun e w' => e = .returned (.bool ((cellB b X).all (· == 255))) ∧ Below W.heap.size W w') := are_any _ (cellB b X) 255 W (by unfold cellB; rw [List.length_take]; omega) hsx
      have HFR : Hid (freeI b k.la X = (decide (k.la < (X : Int)) && (cellB b X).all (· == 255))) := rfl
      generalize (cellB b X).all (· == 255) = AL at *
      clear hsx hseg3 hcell3
      by_cases h1 : k.la < (X : Int)
      · rw [decide_eq_true h1, Bool.true_and] at HFR
        gi_wp2_with fail
        refine (CallsIn.inRound l (callsIn_wide.2 HA.out)).mono ?_
        rintro e W5 ⟨rfl, hb5⟩
        clear HA
        have q0 := p0.below hb5 p0.lt
        have q1 := p1.below hb5 p1.lt
        have q2 := p2.below hb5 p2.lt
        have qK := pK.below hb5 pK.lt
        have hc5 : Chg (fun q => W3.heap.size ≤ q) W W5 := Chg.of_below hb5 (Nat.le_refl _)
        have hk5 : KeepsFrom W3.heap.size W W5 := keeps_chg9 (S := fun _ => False) _ (Chg.of_below hb5 (Nat.le_refl _)) (fun k hk => hk.elim)
        clear d0 d8 d9 p0 p1 p2 pK
        cases AL with
        | true =>
          have g0 := q0.cell (j := 0) rfl
          have g8 : W5.cell? ⟨g, 8, none⟩ = some (.int .i64 (k.wh : Int)) := qK.cell (j := 8) rfl
          have g10 := q1.cell (j := 0) rfl
          have z10 := q1.frozen 0
          have g11 := q1.cell (j := 1) rfl
          have z11 := q1.frozen 1
          have g20 := q2.cell (j := 0) rfl
          have z20 := q2.frozen 0
          have hcW : Chg (fun q => q = w.heap.size + 1 ∨ q = w.heap.size + 1 + 1) W5 (((W5.setCell ⟨w.heap.size + 1, 0, none⟩ (.int .i64 (k.wh : Int))).setCell ⟨w.heap.size + 1, 1, none⟩ (.int .i64 (X : Int))).setCell ⟨w.heap.size + 1 + 1, 0, none⟩ (.int .i64 0)) := (((Chg.refl (fun q => q = w.heap.size + 1 ∨ q = w.heap.size + 1 + 1) W5).setCell (w.heap.size + 1) 0 _ (fun _ => .inl rfl)).setCell (w.heap.size + 1) 1 _ (fun _ => .inl rfl)).setCell (w.heap.size + 1 + 1) 0 _ (fun _ => .inr rfl)
          have y1 : Blk (((W5.setCell ⟨w.heap.size + 1, 0, none⟩ (.int .i64 (k.wh : Int))).setCell ⟨w.heap.size + 1, 1, none⟩ (.int .i64 (X : Int))).setCell ⟨w.heap.size + 1 + 1, 0, none⟩ (.int .i64 0)) (w.heap.size + 1) 68 #[.int .i64 (k.wh : Int), .int .i64 (X : Int)] := ((q1.set 0 (.int .i64 (k.wh : Int))).set 1 (.int .i64 (X : Int))).setOther _ _ (by show w.heap.size + 1 ≠ w.heap.size + 1 + 1; omega)
          have y2 : Blk (((W5.setCell ⟨w.heap.size + 1, 0, none⟩ (.int .i64 (k.wh : Int))).setCell ⟨w.heap.size + 1, 1, none⟩ (.int .i64 (X : Int))).setCell ⟨w.heap.size + 1 + 1, 0, none⟩ (.int .i64 0)) (w.heap.size + 1 + 1) 26 #[.int .i64 0] := ((q2.setOther _ _ (by show w.heap.size + 1 + 1 ≠ w.heap.size + 1; omega)).setOther _ _ (by show w.heap.size + 1 + 1 ≠ w.heap.size + 1; omega)).set 0 (.int .i64 0)
          have hkW := keeps_chg9 W3.heap.size hcW (fun q hq o ho => by rcases hq with rfl | rfl; exact blk_isCells9 q1 o ho; exact blk_isCells9 q2 o ho)
          gi_wp2
          exact ⟨hk5.trans hkW, rfl, nums pre, X, HSN.out, hall, HFR.out, y1, y2, (Chg.trans (S := fun q => W3.heap.size ≤ q ∨ q = w.heap.size + 1 ∨ q = w.heap.size + 1 + 1) (Chg.trans (S := fun q => W3.heap.size ≤ q ∨ q = w.heap.size + 1 ∨ q = w.heap.size + 1 + 1) (hc.weaken (fun _ h => .inl h)) hc5 (fun _ _ h => .inl h)) hcW (fun _ _ h => .inr h))⟩
        | false =>
          gi_wp2
          refine ⟨hk5, hc5, ?_, hc.trans hc5 (fun _ _ h => h)⟩
          intro i hi
          rw [HSN.out] at hi
          rcases List.mem_append.1 hi with h | h
          · exact hall i h
          · rw [List.mem_singleton.1 h]; exact HFR.out
      · rw [decide_eq_false h1, Bool.false_and] at HFR
        clear HA
        gi_wp2
        refine ⟨KeepsFrom.refl _ _, Chg.refl _ _, ?_, hc⟩
        intro i hi
        rw [HSN.out] at hi
        rcases List.mem_append.1 hi with h | h
        · exact hall i h
        · rw [List.mem_singleton.1 h]; exact HFR.out
    case done =>
      rintro D ys W hDD hS ⟨hall, hc⟩ hKD
      have hrn : roomI b k.la = none := roomI_none (fun i hi => hall i (by rw [hS]; exact hi))
      rw [hrn] at HRE
      clear hrn hall hS hseg3 hcell3
      have hDl : D < W.heap.size := (Array.getElem?_eq_some_iff.1 hKD).1
      have p0 := n0.chg hc (by show ¬ W3.heap.size ≤ w.heap.size; omega)
      have p1 := n1.chg hc (by show ¬ W3.heap.size ≤ w.heap.size + 1; omega)
      have p2 := n2.chg hc (by show ¬ W3.heap.size ≤ w.heap.size + 1 + 1; omega)
      have pK := hK3.chg hc (by show ¬ W3.heap.size ≤ g; have := hB3.size; omega)
      have pD := hD3.chg hc (fun q hq => by show ¬ W3.heap.size ≤ q; have := hlw q hq; have := hB3.size; omega)
      have hBW : Below w.heap.size w W := hB3.trans (hc.below (B := w.heap.size) (fun q hq => by have := hB3.size; omega) hB3.size)
      have d0 := p0.cell (j := 0) rfl
      have d8 : W.cell? ⟨g, 8, none⟩ = some (.int .i64 (k.wh : Int)) := pK.cell (j := 8) rfl
      obtain ⟨O, hO⟩ : ∃ O : Nat, O = 1 - k.wh := ⟨_, rfl⟩
      have hw1 : IntKind.i64.wrap (1 - (k.wh : Int)) = (O : Int) := by rw [IntKind.wrap_i64]; omega
      have HO : Hid (O = 1 - k.wh) := hO
      have hO1 : O ≤ 1 := by omega
      clear hO
      gi_wp2_with fail
      refine wpIn_wide.2 ?_
      have HCL : Hid (∀ V, Blk V w.heap.size 32 #[.pointer (some ⟨g, 0, none⟩)] → Blk V g 71 (kpC L j k) → V.cell? ⟨w.heap.size, 0, none⟩ = some (.pointer (some ⟨g, 0, none⟩)) ∧ V.cell? ⟨g, 0, none⟩ = some (.pointer (some ⟨L.g, 0, none⟩)) ∧ V.cell? ⟨g, 1, none⟩ = some (.int .i64 (j : Int))) := fun V h1 h2 => ⟨h1.cell (j := 0) rfl, h2.cell (j := 0) rfl, h2.cell (j := 1) rfl⟩
      have hS0 := HCL.out W.drew p0.drew pK.drew
      have HER : Hid (Calls Tryd.prog 17 #[.pointer (some ⟨L.g, 0, none⟩), .int .i64 ((j : Int) + (O : Int))] W.drew fun e w' => e = .returned (.int .i64 (eraseF s ((j : Int) + (O : Int))).1) ∧ PFlash w' L (eraseF s ((j : Int) + (O : Int))).2 ∧ Chg L.T W.drew w') := erase6_any L s _ _ (thePF.after pD (Below.refl _ _).drew)
      refine held_begin (fun V => V.cell? ⟨w.heap.size, 0, none⟩ = some (.pointer (some ⟨g, 0, none⟩)) ∧ V.cell? ⟨g, 0, none⟩ = some (.pointer (some ⟨L.g, 0, none⟩)) ∧ V.cell? ⟨g, 1, none⟩ = some (.int .i64 (j : Int))) (by kernel_rfl) ?_
      refine held_take 0 51 _ (.int .i64 (O : Int)) rfl rfl (by kernel_rfl) (by kernel_rfl) (by kernel_rfl) rfl hS0 (fun _ _ => rfl) ?_
      simp only [Act.put, List.setIfInBounds_toArray, List.set_cons_succ, List.set_cons_zero]
      refine held_take 1 52 _ (.agg #[.int .i64 (O : Int), .int .i64 0]) rfl rfl (by kernel_rfl) (by kernel_rfl) (by kernel_rfl) rfl hS0 (fun _ _ => by kernel_rfl) ?_
      simp only [Act.put, List.setIfInBounds_toArray, List.set_cons_succ, List.set_cons_zero]
      refine held_take 2 53 _ (.pointer (some ⟨g, 0, none⟩)) rfl rfl (by kernel_rfl) (by kernel_rfl) (by kernel_rfl) rfl hS0 (fun V hV => exec_loadc 32 _ rfl _ _ rfl (load_one 32 (fun _ => by kernel_rfl) V _ _ _ hV.1)) ?_
      simp only [Act.put, List.setIfInBounds_toArray, List.set_cons_succ, List.set_cons_zero]
      refine held_take 3 54 _ (.pointer (some ⟨g, 0, none⟩)) rfl rfl (by kernel_rfl) (by kernel_rfl) (by kernel_rfl) rfl hS0 (fun _ _ => rfl) ?_
      simp only [Act.put, List.setIfInBounds_toArray, List.set_cons_succ, List.set_cons_zero]
      refine held_take 4 55 _ (.pointer (some ⟨g, 0, none⟩)) rfl rfl (by kernel_rfl) (by kernel_rfl) (by kernel_rfl) rfl hS0 (fun _ _ => rfl) ?_
      simp only [Act.put, List.setIfInBounds_toArray, List.set_cons_succ, List.set_cons_zero]
      refine held_take 5 56 _ (.pointer (some ⟨L.g, 0, none⟩)) rfl rfl (by kernel_rfl) (by kernel_rfl) (by kernel_rfl) rfl hS0 (fun V hV => exec_loadc 25 _ rfl _ _ rfl (load_one 25 (fun _ => by kernel_rfl) V _ _ _ hV.2.1)) ?_
      simp only [Act.put, List.setIfInBounds_toArray, List.set_cons_succ, List.set_cons_zero]
      refine held_take 6 57 _ (.pointer (some ⟨g, 0, none⟩)) rfl rfl (by kernel_rfl) (by kernel_rfl) (by kernel_rfl) rfl hS0 (fun V hV => exec_loadc 32 _ rfl _ _ rfl (load_one 32 (fun _ => by kernel_rfl) V _ _ _ hV.1)) ?_
      simp only [Act.put, List.setIfInBounds_toArray, List.set_cons_succ, List.set_cons_zero]
      refine held_take 7 58 _ (.pointer (some ⟨g, 0, none⟩)) rfl rfl (by kernel_rfl) (by kernel_rfl) (by kernel_rfl) rfl hS0 (fun _ _ => rfl) ?_
      simp only [Act.put, List.setIfInBounds_toArray, List.set_cons_succ, List.set_cons_zero]
      refine held_take 8 59 _ (.pointer (some ⟨g, 1, none⟩)) rfl rfl (by kernel_rfl) (by kernel_rfl) (by kernel_rfl) rfl hS0 (fun _ _ => rfl) ?_
      simp only [Act.put, List.setIfInBounds_toArray, List.set_cons_succ, List.set_cons_zero]
      refine held_take 9 60 _ (.int .i64 (j : Int)) rfl rfl (by kernel_rfl) (by kernel_rfl) (by kernel_rfl) rfl hS0 (fun V hV => exec_loadc 3 _ rfl _ _ rfl (load_one 3 (fun _ => by kernel_rfl) V _ _ _ hV.2.2)) ?_
      simp only [Act.put, List.setIfInBounds_toArray, List.set_cons_succ, List.set_cons_zero]
      refine held_take 10 61 _ (.int .i64 (O : Int)) rfl rfl (by kernel_rfl) (by kernel_rfl) (by kernel_rfl) rfl hS0 (fun _ _ => rfl) ?_
      simp only [Act.put, List.setIfInBounds_toArray, List.set_cons_succ, List.set_cons_zero]
      refine held_take 11 62 _ (.int .i64 ((j : Int) + (O : Int))) rfl rfl (by kernel_rfl) (by kernel_rfl) (by kernel_rfl) rfl hS0 (fun V _ => exec_add9 3 _ _ rfl (j : Int) (O : Int) rfl rfl (by omega) (by omega)) ?_
      simp only [Act.put, List.setIfInBounds_toArray, List.set_cons_succ, List.set_cons_zero]
      refine held_all1 12 (by kernel_rfl) (op_call 12 63 _ 17 #[.pointer (some ⟨L.g, 0, none⟩), .int .i64 ((j : Int) + (O : Int))] rfl rfl rfl (exec_two8 17 _ _ _ rfl _ _ rfl rfl Tryd.call17) (HER.out.mono ?_))
      rintro e W6 ⟨rfl, hD6, hc6⟩
      have hc6' : Chg L.T W W6 := ((Chg.refl L.T W).drew).trans hc6 (fun _ _ h => h)
      have hnT : ∀ q, w.heap.size ≤ q → ¬ L.T q := fun q hq h => by have := hlw q h; omega
      have q0 := p0.chg hc6' (hnT _ (Nat.le_refl _))
      have q1 := p1.chg hc6' (hnT _ (by omega))
      have q2 := p2.chg hc6' (hnT _ (by omega))
      have qK := pK.chg hc6' hg
      have hS6 := HCL.out W6 q0 qK
      have hKD6 : W6.heap[D]? = some (.deferred (some [])) := by rw [hc6'.2 D hDl (hnT D (by have := hB3.size; have h9 : W3.heap.size ≤ D := hDD; omega))]; exact hKD
      refine ⟨_, rfl, hS6, ?_⟩
      simp only [Act.put, List.setIfInBounds_toArray, List.set_cons_succ, List.set_cons_zero]
      generalize hER : eraseF s ((j : Int) + (O : Int)) = ER at *
      refine held_all1 13 (by kernel_rfl) (op_row 13 _ rfl rfl rfl 68 _ _ rfl (w.heap.size + 1) #[.int .i64 (O : Int), .int .i64 0] rfl rfl 68 _ q1 info_place9 rfl (by simp [Value.oneCell']) ?_)
      intro W7 y1 hg7 hs7
      have hc7 : Chg (fun q => q = w.heap.size + 1) W6 W7 := Chg.of_grown hg7 (fun k e => by cases e; rfl)
      have r0 := q0.chg hc7 (by omega)
      have r2 := q2.chg hc7 (by omega)
      have rK := qK.chg hc7 (by omega)
      have hS7 := HCL.out W7 r0 rK
      refine ⟨hS7, ?_⟩
      have hc8 : Chg (fun q => q = w.heap.size + 1 + 1) W7 (W7.setCell ⟨w.heap.size + 1 + 1, 0, none⟩ (.int .i64 ER.1)) := (Chg.refl _ _).setCell (w.heap.size + 1 + 1) 0 _ (fun _ => rfl)
      have s1 := y1.chg hc8 (by omega)
      have s2 : Blk (W7.setCell ⟨w.heap.size + 1 + 1, 0, none⟩ (.int .i64 ER.1)) (w.heap.size + 1 + 1) 26 #[.int .i64 ER.1] := r2.set 0 (.int .i64 ER.1)
      have hS8 := HCL.out _ (r0.chg hc8 (by omega)) (rK.chg hc8 (by omega))
      refine held_all1 14 (by kernel_rfl) (op_skip 14 _ _ rfl rfl rfl (exec_storeE9 _ _ rfl (w.heap.size + 1 + 1) 0 ER.1 _ rfl rfl (r2.cell (j := 0) rfl) (r2.frozen 0)) ⟨hS8, ?_⟩)
      refine wpAnyH_done (by kernel_rfl) ?_ _
      refine NoPanic.normal ?_
      have hc68 : Chg (fun q => q = w.heap.size + 1 ∨ q = w.heap.size + 1 + 1) W6 (W7.setCell ⟨w.heap.size + 1 + 1, 0, none⟩ (.int .i64 ER.1)) := (hc7.weaken (fun _ h => .inl h)).trans hc8 (fun _ _ h => .inr h)
      have hDW3 : W3.heap.size ≤ D := hDD
      have hKD8 : (W7.setCell ⟨w.heap.size + 1 + 1, 0, none⟩ (.int .i64 ER.1)).heap[D]? = some (.deferred (some [])) := by rw [hc68.2 D (Array.getElem?_eq_some_iff.1 hKD6).1 (fun e => by omega)]; exact hKD6
      have hD8 := hD6.chg hc68 (fun q hq e => by have := hlw q hq; omega)
      generalize W7.setCell ⟨w.heap.size + 1 + 1, 0, none⟩ (.int .i64 ER.1) = W8 at *
      have hc9 : Chg (fun q => q = D) W8 (W8.putObj D (.deferred none)) := Chg.of_grown (grownBy_putObj' _ D (.deferred none)) (fun k e => by cases e; rfl)
      gi_wp2
      (try simp only [Exit.noGoto])
      refine ⟨by simp, .inl ⟨_, _, rfl, run_takeDeferred hKD8, ?_⟩⟩
      refine ⟨_, room_results _ _ _ _ _ _ _ rfl rfl (s1.chg hc9 (by omega)) ((s2.chg hc9 (by omega)).cell (j := 0) rfl), ?_⟩
      rw [HRE.out]
      have hee : eraseF s ((j + (1 - k.wh) : Nat) : Int) = ER := by rw [← hER, HO.out, Int.natCast_add]
      refine ⟨by dsimp only; rw [hee, ← HO.out]; rfl, by dsimp only; rw [hee]; exact hD8.chg hc9 (fun q hq e => by have := hlw q hq; have := hB3.size; omega), ?_⟩
      exact (Chg.trans (S := L.T) (Chg.trans (S := L.T) (Chg.trans (S := L.T) (Chg.of_below hBW (Nat.le_refl _)) hc6' (fun _ _ h => h)) hc68 (fun q hq e => by omega)) hc9 (fun q hq e => by have := hB3.size; omega))
    case stop =>
      rintro D c pre W hDD ⟨kk, hkk, hr⟩ ⟨rfl, q, i, hq, hall, hfi, y1, y2, hc⟩ hKD
      have hrs : roomI b k.la = some i := roomI_some hkk (hr.symm.trans hq) hall hfi
      rw [hrs] at HRE
      have hDW3 : W3.heap.size ≤ D := hDD
      have hc9 : Chg (fun q => q = D) W (W.putObj D (.deferred none)) := Chg.of_grown (grownBy_putObj' _ D (.deferred none)) (fun k e => by cases e; rfl)
      have hBW : Below w.heap.size w W := hB3.trans (hc.below (B := w.heap.size) (fun q hq => by have := hB3.size; omega) hB3.size)
      have pD := hD3.chg hc (fun q hq => by have := hlw q hq; have := hB3.size; omega)
      clear hrs hr hq hall hfi
      gi_wp2
      (try simp only [Exit.noGoto])
      refine ⟨by simp, .inl ⟨_, _, rfl, run_takeDeferred hKD, ?_⟩⟩
      refine ⟨_, room_results _ _ _ _ _ _ _ rfl rfl (y1.chg hc9 (by omega)) ((y2.chg hc9 (by omega)).cell (j := 0) rfl), ?_⟩
      rw [HRE.out]
      exact ⟨rfl, pD.chg hc9 (fun q hq e => by have := hlw q hq; have := hB3.size; omega), Chg.of_below (hBW.trans (hc9.below (B := w.heap.size) (fun q hq => by have := hB3.size; omega) hBW.size)) (Nat.le_refl _)⟩
end Go.Proofs.YtoemdmfpcobadaaDoor
