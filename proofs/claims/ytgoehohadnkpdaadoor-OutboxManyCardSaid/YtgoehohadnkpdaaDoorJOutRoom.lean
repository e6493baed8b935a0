/-
  What is proved here: Box.room tells the first free place behind the last entry, in its block; where there is none, and nothing waits in the other one, that is erased, and it is its first place.
  Conditions: the box and its flash lie in memory, the power is on, and the two blocks are there.
-/
import Derived.Test.YtgoehohadnkpdaaDoorJOutFind
import Derived.Test.YtgoehohadnkpdaaDoorJOutDel
import Derived.Test.YtgoehohadnkpdaaDoorJAreKit
import Derived.Test.YtgoehohadnkpdaaDoorJBootRound
namespace Go.Proofs.YtgoehohadnkpdaaDoor
open Go.RowKit
attribute [local go_sem] Oper.semAt_some

/-- A box and its flash in memory. -/
structure BX (w : World) (L : PLay6) (g j base : Nat) (wv : Value) (x : XS) (s : FS) : Prop where
  blk : Blk w g 67 (boxC L j wv x)
  row : WtR w base wv x.wt
  fl : PFlash w L s
  gT : ¬ L.T g
  rT : ∀ q, wv.ownBlock = some q → ¬ L.T q ∧ q ≠ g
  len : x.wt.length ≤ 1000
theorem BX.chg {w w' : World} {L : PLay6} {g j base : Nat} {wv : Value} {x : XS} {s : FS} {S : Nat → Prop} (h : BX w L g j base wv x s) (hc : Chg S w w') (hS : ∀ q, S q → ¬ L.T q ∧ q ≠ g ∧ wv.ownBlock ≠ some q) : BX w' L g j base wv x s :=
  ⟨h.blk.chg hc (fun e => (hS g e).2.1 rfl), h.row.chg hc (fun k hk e => (hS k e).2.2 hk), h.fl.chg hc (fun q hq e => (hS q e).1 hq), h.gT, h.rT, h.len⟩
theorem BX.after {w w' : World} {L : PLay6} {g j base : Nat} {wv : Value} {x : XS} {s : FS} (h : BX w L g j base wv x s) (hb : Below w.heap.size w w') : BX w' L g j base wv x s :=
  h.chg (S := fun _ => False) (Chg.of_below hb (Nat.le_refl _)) (fun _ e => e.elim)
theorem roomI_from (b : List UInt8) (b0 : Nat) (hb : b0 ≤ 32) : roomI b ((b0 : Int) - 1) = (List.range' b0 (32 - b0)).find? fun i => (cellB b i).all (· == 255) := by
  unfold roomI
  have h32 : List.range 32 = List.range' 0 b0 ++ List.range' b0 (32 - b0) := by
    rw [List.range_eq_range']
    have := List.range'_append (s := 0) (m := b0) (n := 32 - b0) (step := 1)
    rw [Nat.zero_add, Nat.one_mul, show b0 + (32 - b0) = 32 by omega] at this
    exact this.symm
  rw [h32, List.find?_append, List.find?_eq_none.2 (fun x hx => by
    have := List.mem_range'_1.1 hx
    rw [decide_eq_false (by omega)]
    simp), Option.none_or]
  have hq : ∀ l : List Nat, (∀ i ∈ l, b0 ≤ i) → l.find? (fun i : Nat => decide (((b0 : Int) - 1) < (i : Int)) && (cellB b i).all (· == 255)) = l.find? (fun i : Nat => (cellB b i).all (· == 255)) := by
    intro l
    induction l with
    | nil => intro _; rfl
    | cons x t ih =>
      intro h
      rw [List.find?_cons, List.find?_cons, ih (fun i hi => h i (List.mem_cons_of_mem _ hi)), decide_eq_true (by have := h x List.mem_cons_self; omega), Bool.true_and]
  exact hq _ (fun i hi => (List.mem_range'_1.1 hi).1)
theorem roomX_none {b : List UInt8} {b0 : Nat} (hb : b0 ≤ 32) (h : ∀ i ∈ List.range' b0 (32 - b0), (cellB b i).all (· == 255) = false) : roomI b ((b0 : Int) - 1) = none := by
  rw [roomI_from b b0 hb, List.find?_eq_none]
  intro i hi
  rw [h i hi]
  decide
theorem roomX_some {b : List UInt8} {b0 k i : Nat} {q : List Nat} (hb : b0 ≤ 32) (hk : k ≤ 32 - b0) (hr : List.range' b0 k = q ++ [i]) (h : ∀ x ∈ q, (cellB b x).all (· == 255) = false) (hi : (cellB b i).all (· == 255) = true) : roomI b ((b0 : Int) - 1) = some i := by
  rw [roomI_from b b0 hb]
  have h32 : List.range' b0 (32 - b0) = q ++ ([i] ++ (List.range' (b0 + k) (32 - b0 - k))) := by
    rw [← List.append_assoc, ← hr]
    have := List.range'_append (s := b0) (m := k) (n := 32 - b0 - k) (step := 1)
    rw [Nat.one_mul, show k + (32 - b0 - k) = 32 - b0 by omega] at this
    exact this.symm
  rw [h32, List.find?_append, List.find?_eq_none.2 (fun x hx => by rw [h x hx]; decide)]
  simp [hi]
theorem roomO_results (tmps : Array Value) (W : World) (p q : Nat) (x y u : Value) (hp : tmps.getD 2 undef = .pointer (some ⟨p, 0, none⟩)) (hq : tmps.getD 3 undef = .pointer (some ⟨q, 0, none⟩)) (h0 : Blk W p 61 #[x, y]) (h1 : W.cell? ⟨q, 0, none⟩ = some u) :
    (results Tryd.f27 tmps).run Tryd.prog W = .ok (.tuple #[.agg #[x, y], u]) W := by
  have hp' : tmps[2]?.getD undef = .pointer (some ⟨p, 0, none⟩) := by simpa using hp
  have hq' : tmps[3]?.getD undef = .pointer (some ⟨q, 0, none⟩) := by simpa using hq
  have h2 := h0.cell (j := 0) rfl
  have h3 := h0.cell (j := 1) rfl
  simp [results, Tryd.results27, go_sem, hp', hq', h1, h2, h3]

set_option maxRecDepth 100000 in
set_option maxHeartbeats 8000000 in
theorem roomP (L : PLay6) (s : FS) (g j base : Nat) (wv : Value) (x : XS) (w : World) (h : BX w L g j base wv x s) (hdn : s.down = false) (hj : j + 1 < L.n) (hw : x.last.wh ≤ 1) (hl0 : -1 ≤ x.last.la) (hl1 : x.last.la ≤ 31) :
    Calls Tryd.prog 27 #[.pointer (some ⟨g, 0, none⟩)] w fun e w' => e = .returned (.tuple #[.agg #[.int .i64 ((roomX x j s).1.1 : Int), .int .i64 ((roomX x j s).1.2 : Int)], .int .i64 (roomX x j s).2.1]) ∧ BX w' L g j base wv (roomX x j s).2.2.1 (roomX x j s).2.2.2 ∧ Chg (fun q => L.T q ∨ q = g) w w' := by
  obtain ⟨b0, hb0e, hb0⟩ : ∃ b0 : Nat, x.last.la = (b0 : Int) - 1 ∧ b0 ≤ 32 := ⟨(x.last.la + 1).toNat, by omega, by omega⟩
  have HRE : Hid (roomX x j s = match roomI (blkB s (j + x.last.wh)) ((b0 : Int) - 1) with
    | some i => ((x.last.wh, i), 0, x, s)
    | none => if x.wt.any (fun e => e.wh == 1 - x.last.wh) then ((0, 0), 3, x, s) else ((1 - x.last.wh, 0), (eraseF s ((j + (1 - x.last.wh) : Nat) : Int)).1, { x with br := (eraseF s ((j + (1 - x.last.wh) : Nat) : Int)).1 != 0 }, (eraseF s ((j + (1 - x.last.wh) : Nat) : Int)).2)) := by show _ = _; unfold roomX; rw [hb0e]; cases roomI (blkB s (j + x.last.wh)) ((b0 : Int) - 1) <;> rfl
  generalize roomX x j s = RX at *
  have hgl := h.blk.lt
  have hlw := h.fl.lt
  have hok := h.fl.ok
  have hcap := hok.cap
  obtain ⟨P1, hP1⟩ : ∃ B, B = w.heap.size + 1 := ⟨_, rfl⟩
  obtain ⟨E1, hE1⟩ : ∃ B, B = w.heap.size + 1 + 1 := ⟨_, rfl⟩
  obtain ⟨Bp, hBp⟩ : ∃ B, B = w.heap.size := ⟨_, rfl⟩
  have hbA := (((Below.refl w.heap.size w).alloc (Nat.le_refl _) (.cells #[.pointer (some ⟨g, 0, none⟩)] 31)).alloc (by simp) (.cells #[.int .i64 0, .int .i64 0] 61)).alloc (by simp; omega) (.cells #[.int .i64 0] 28)
  have k0 : Blk (((w.alloc (.cells #[.pointer (some ⟨g, 0, none⟩)] 31)).alloc (.cells #[.int .i64 0, .int .i64 0] 61)).alloc (.cells #[.int .i64 0] 28)) Bp 31 #[.pointer (some ⟨g, 0, none⟩)] := by rw [hBp]; exact ((Blk.new w _ _).alloc _).alloc _
  have k1 : Blk (((w.alloc (.cells #[.pointer (some ⟨g, 0, none⟩)] 31)).alloc (.cells #[.int .i64 0, .int .i64 0] 61)).alloc (.cells #[.int .i64 0] 28)) P1 61 #[.int .i64 0, .int .i64 0] := (Blk.newAt _ _ _ _ (by simp [hP1])).alloc _
  have k2 : Blk (((w.alloc (.cells #[.pointer (some ⟨g, 0, none⟩)] 31)).alloc (.cells #[.int .i64 0, .int .i64 0] 61)).alloc (.cells #[.int .i64 0] 28)) E1 28 #[.int .i64 0] := Blk.newAt _ _ _ _ (by simp [hE1])
  have hX0 := h.after hbA
  have c8 : (((w.alloc (.cells #[.pointer (some ⟨g, 0, none⟩)] 31)).alloc (.cells #[.int .i64 0, .int .i64 0] 61)).alloc (.cells #[.int .i64 0] 28)).cell? ⟨g, 8, none⟩ = some (.int .i64 (x.last.wh : Int)) := hX0.blk.cell (j := 8) rfl
  have c9 : (((w.alloc (.cells #[.pointer (some ⟨g, 0, none⟩)] 31)).alloc (.cells #[.int .i64 0, .int .i64 0] 61)).alloc (.cells #[.int .i64 0] 28)).cell? ⟨g, 9, none⟩ = some (.int .i64 ((b0 : Int) - 1)) := by rw [← hb0e]; exact hX0.blk.cell (j := 9) rfl
  obtain ⟨W0, hW0⟩ : ∃ W0, W0 = ((w.alloc (.cells #[.pointer (some ⟨g, 0, none⟩)] 31)).alloc (.cells #[.int .i64 0, .int .i64 0] 61)).alloc (.cells #[.int .i64 0] 28) := ⟨_, rfl⟩
  rw [← hW0] at k0 k1 k2 hX0 hbA
  have hfn : Fence.wide.fn 43 := trivial
  have hfn2 : Fence.wide.fn 38 := trivial
  have hfn3 : Fence.wide.fn 44 := trivial
  have hfn4 : Fence.wide.fn 45 := trivial
  have HX : Hid (BX W0 L g j base wv x s) := hX0
  have HLA : Hid (x.last.la = (b0 : Int) - 1) := hb0e
  clear hX0 hb0e hl0 hl1
  refine (callsIn_wide (n := 6)).1 ?_
  refine callsIn_of_wp_marks Tryd.func27 rfl trivial ?_ rfl
  simp only [Tryd.ntmps27, List.size_toArray, List.length_cons, List.length_nil, Nat.reduceAdd, Nat.reduceSub, Array.replicate_succ, Array.replicate_zero, List.push_toArray, List.append_toArray, List.nil_append, List.cons_append]
  gi_wp2_with fail
  rw [← hW0, ← hE1, ← hP1, ← hBp]
  clear hW0 c8 c9
  have hBl : w.heap.size ≤ Bp ∧ w.heap.size ≤ P1 ∧ w.heap.size ≤ E1 ∧ Bp ≠ P1 ∧ Bp ≠ E1 ∧ P1 ≠ E1 := by omega
  clear hE1 hP1 hBp
  refine (callsIn_wide.2 (behindX x.last.wh ((b0 : Int) - 1) W0)).mono ?_
  rintro e W1 ⟨rfl, hW1⟩
  obtain ⟨Bn, hBn⟩ : ∃ B, B = W0.heap.size := ⟨_, rfl⟩
  rw [← hBn]
  have hkB : Blk W1 Bn 61 #[.int .i64 (x.last.wh : Int), .int .i64 ((b0 : Int) - 1)] := by rw [hW1, hBn]; exact Blk.new _ _ _
  have hb1 : Below W0.heap.size W0 W1 := by rw [hW1]; exact (Below.refl _ _).alloc (Nat.le_refl _) _
  have hBs : Bn < W1.heap.size := hkB.lt
  have hs1 := hb1.size
  have hs0 := hbA.size
  clear hW1 hBn
  have n0 := k0.below hb1 k0.lt
  have n1 := k1.below hb1 k1.lt
  have n2 := k2.below hb1 k2.lt
  have HX1 : Hid (BX W1 L g j base wv x s) := HX.out.after hb1
  have hl0 := n0.lt
  have hl1 := n1.lt
  have hl2 := n2.lt
  have hBW1 : Below w.heap.size w W1 := hbA.trans (hb1.mono hbA.size)
  clear k0 k1 k2 HX hb1 hbA
  obtain ⟨WH, hWH⟩ : ∃ WH, WH = x.last.wh := ⟨_, rfl⟩
  have HWH : Hid (WH = x.last.wh) := hWH
  rw [← hWH] at hkB hw HRE ⊢
  clear hWH
  gi_wp2_with fail
  refine wpIn_rangeFunc_ownH rfl (by decide) (gf := 63) (lb := #[.pointer (some ⟨Bn, 0, none⟩)]) rfl trivial (enters_of Tryd.func63 (by kernel_rfl) rfl)
    (behind_stops 5 (by decide) Bn (fun q => W1.heap.size ≤ q) WH b0 hb0 (by omega) W1 hkB) (fun h k => h.trans k (fun _ _ h => h)) (fun V l o o' hl _ _ _ => Chg.of_grown (grownBy_putObj' V l o') (fun k e => by cases e; exact hl)) (Below.refl _ _) (fun _ => rfl)
    (fun pre V => (∀ i ∈ nums pre, (cellB (blkB s (j + WH)) i).all (· == 255) = false) ∧ Chg (fun q => W1.heap.size ≤ q) W1 V)
    (fun c pre V => c = .ret ∧ ∃ q i, nums pre = q ++ [i] ∧ (∀ x ∈ q, (cellB (blkB s (j + WH)) x).all (· == 255) = false) ∧ (cellB (blkB s (j + WH)) i).all (· == 255) = true ∧ Blk V P1 61 #[.int .i64 (WH : Int), .int .i64 (i : Int)] ∧ Blk V E1 28 #[.int .i64 0] ∧ Chg (fun q => W1.heap.size ≤ q ∨ q = P1 ∨ q = E1) W1 V)
    (fun pre A B row ⟨h1, h2⟩ hg hr => ⟨h1, h2.trans (Chg.of_grown (S := fun q => W1.heap.size ≤ q) hg (fun k e => (hr k e).1)) (fun _ _ h => h)⟩)
    (fun c pre A B row ⟨h0, q, i, h1, h2, h3, h4, h5, h6⟩ hg hr => ⟨h0, q, i, h1, h2, h3, h4.grown hg (fun e => by have := (hr _ e.symm).1; omega), h5.grown hg (fun e => by have := (hr _ e.symm).1; omega), h6.trans (Chg.of_grown (S := fun q => W1.heap.size ≤ q ∨ q = P1 ∨ q = E1) hg (fun k e => .inl (hr k e).1)) (fun _ _ h => h)⟩)
    ⟨(fun i hi => by cases hi), Chg.refl _ _⟩
    (fun y a' V => ∃ N, W1.heap.size ≤ N ∧ Blk V N 61 #[.int .i64 (WH : Int), .int .i64 (y.val : Int)] ∧ a' = { tmps := #[.pointer (some ⟨g, 0, none⟩), .pointer (some ⟨Bp, 0, none⟩), .pointer (some ⟨P1, 0, none⟩), .pointer (some ⟨E1, 0, none⟩), .pointer (some ⟨N, 0, none⟩), undef, undef, undef, .pointer (some ⟨g, 0, none⟩), .pointer (some ⟨g, 0, none⟩), .pointer (some ⟨g, 3, none⟩), .pointer (some ⟨g, 8, none⟩), .agg #[.int .i64 (WH : Int), .int .i64 ((b0 : Int) - 1)], .func (.func 63) #[] #[.pointer (some ⟨Bn, 0, none⟩)], .agg #[.int .i64 (WH : Int), .int .i64 (y.val : Int)], undef, undef, undef, undef, undef, undef, undef, undef, undef, undef, undef, undef, undef, undef, undef, undef, undef, undef, undef, undef, undef, undef, undef, undef, undef, undef, undef, undef, undef, undef, undef, undef, undef, undef, undef, undef, undef, undef, undef, undef, undef, undef, undef, undef], defers := [] })
    (fun x a' _ A B row ⟨N, hN, hk, ha⟩ hg hr => ⟨N, hN, hk.grown hg (fun e => by obtain ⟨_, o, ho, hc⟩ := hr N e.symm; rw [blk_isCells9 hk o ho] at hc; cases hc), ha⟩)
    ?assign ?body ?done ?stop
  case assign =>
    rintro lab pre ⟨X, hX⟩ V K ⟨hJv, hcv⟩ hK
    dsimp only
    gi_wp2
    exact hK _ _ (keepsFrom_alloc9 _) ((Chg.refl _ _).alloc _) ⟨hJv, hcv.alloc _⟩ ⟨V.heap.size, hcv.size, Blk.new _ _ _, rfl⟩
  case body =>
    rintro lab pre ⟨X, hX⟩ a' V hlab hrec ⟨hall, hcv⟩ ⟨N, hN, hkN, rfl⟩ hlt
    dsimp only
    have hF : ∀ f, (Fence.wide.inRound lab).fn f := fun _ => trivial
    have HSN : Hid (nums (pre ++ [⟨X, hX⟩]) = nums pre ++ [X]) := by show _ = _; unfold nums; rw [List.map_append]; rfl
    have p0 := n0.chg hcv (by show ¬ W1.heap.size ≤ Bp; omega)
    have p1 := n1.chg hcv (by show ¬ W1.heap.size ≤ P1; omega)
    have p2 := n2.chg hcv (by show ¬ W1.heap.size ≤ E1; omega)
    have pK : Blk V g 67 (boxC L j wv x) := HX1.out.blk.chg hcv (by show ¬ W1.heap.size ≤ g; omega)
    have pD : PFlash V L s := HX1.out.fl.chg hcv (fun q hq => by have := hlw q hq; show ¬ W1.heap.size ≤ q; omega)
    have HRD : Hid (Calls Tryd.prog 38 #[.pointer (some ⟨g, 0, none⟩), .agg #[.int .i64 (WH : Int), .int .i64 (X : Int)]] V fun e w' => ∃ v, e = .returned (.tuple #[v, .int .i64 0]) ∧ Own w' V.heap.size v (cellB (blkB s (j + WH)) X) ∧ Below V.heap.size V w') := readX L s g j _ _ WH X V pK pD hdn (by omega) hw hX
    have d0 := p0.cell (j := 0) rfl
    have m0 := hkN.cell (j := 0) rfl
    have m1 := hkN.cell (j := 1) rfl
    clear pK pD hrec
    gi_wp2_with fail
    refine (CallsIn.inRound lab (callsIn_wide.2 HRD.out)).mono ?_
    rintro e V1 ⟨v1, rfl, ho1, hb1⟩
    clear HRD
    have HA : Hid (Calls Tryd.prog 44 #[v1, .int .u8 255] V1 fun e w' => e = .returned (.bool ((cellB (blkB s (j + WH)) X).all (· == 255))) ∧ Below V1.heap.size V1 w') := areX _ _ 255 V1 (by unfold cellB; rw [List.length_take]; omega) ho1.seg
    obtain ⟨a1, c1, hv1⟩ := ho1.seg.shapeD
    subst hv1
    clear ho1
    have HAL : Hid (∀ A, (cellB (blkB s (j + WH)) X).all (· == 255) = A → (cellB (blkB s (j + WH)) X).all (· == 255) = A) := fun _ h => h
    generalize hALL : (cellB (blkB s (j + WH)) X).all (· == 255) = ALL at HA
    have HALL : Hid ((cellB (blkB s (j + WH)) X).all (· == 255) = ALL) := hALL
    clear hALL HAL
    generalize (cellB (blkB s (j + WH)) X).length = CL at *
    gi_wp2_with fail
    refine (CallsIn.inRound lab (callsIn_wide.2 HA.out)).mono ?_
    rintro e V2 ⟨rfl, hb2⟩
    clear HA
    have hb3 : Below V.heap.size V V2 := hb1.trans (hb2.mono hb1.size)
    have q0 := p0.below hb3 p0.lt
    have q1 := p1.below hb3 p1.lt
    have q2 := p2.below hb3 p2.lt
    have qN := hkN.below hb3 hkN.lt
    have hc5 : Chg (fun q => W1.heap.size ≤ q) V V2 := Chg.of_below hb3 (Nat.le_refl _)
    have hk5 : KeepsFrom W1.heap.size V V2 := keeps_chg9 (S := fun _ => False) _ (Chg.of_below hb3 (Nat.le_refl _)) (fun k hk => hk.elim)
    clear d0 m0 m1 p0 p1 p2 hb1 hb2 hkN
    cases ALL with
    | true =>
      have g0 := qN.cell (j := 0) rfl
      have g1 := qN.cell (j := 1) rfl
      have g10 := q1.cell (j := 0) rfl
      have z10 := q1.frozen 0
      have g11 := q1.cell (j := 1) rfl
      have z11 := q1.frozen 1
      have g20 := q2.cell (j := 0) rfl
      have z20 := q2.frozen 0
      have hPE := hBl.2.2.2.2.2
      have hcW : Chg (fun q => q = P1 ∨ q = E1) V2 (((V2.setCell ⟨P1, 0, none⟩ (.int .i64 (WH : Int))).setCell ⟨P1, 1, none⟩ (.int .i64 (X : Int))).setCell ⟨E1, 0, none⟩ (.int .i64 0)) := (((Chg.refl (fun q => q = P1 ∨ q = E1) V2).setCell P1 0 _ (fun _ => .inl rfl)).setCell P1 1 _ (fun _ => .inl rfl)).setCell E1 0 _ (fun _ => .inr rfl)
      have y1 : Blk (((V2.setCell ⟨P1, 0, none⟩ (.int .i64 (WH : Int))).setCell ⟨P1, 1, none⟩ (.int .i64 (X : Int))).setCell ⟨E1, 0, none⟩ (.int .i64 0)) P1 61 #[.int .i64 (WH : Int), .int .i64 (X : Int)] := ((q1.set 0 (.int .i64 (WH : Int))).set 1 (.int .i64 (X : Int))).setOther _ _ hPE
      have y2 : Blk (((V2.setCell ⟨P1, 0, none⟩ (.int .i64 (WH : Int))).setCell ⟨P1, 1, none⟩ (.int .i64 (X : Int))).setCell ⟨E1, 0, none⟩ (.int .i64 0)) E1 28 #[.int .i64 0] := ((q2.setOther _ _ (fun e => hPE e.symm)).setOther _ _ (fun e => hPE e.symm)).set 0 (.int .i64 0)
      have hkW := keeps_chg9 W1.heap.size hcW (fun q hq o ho => by rcases hq with rfl | rfl; exact blk_isCells9 q1 o ho; exact blk_isCells9 q2 o ho)
      gi_wp2
      exact ⟨hk5.trans hkW, rfl, nums pre, X, HSN.out, hall, HALL.out, y1, y2, (Chg.trans (S := fun q => W1.heap.size ≤ q ∨ q = P1 ∨ q = E1) (Chg.trans (S := fun q => W1.heap.size ≤ q ∨ q = P1 ∨ q = E1) (hcv.weaken (fun _ h => .inl h)) hc5 (fun _ _ h => .inl h)) hcW (fun _ _ h => .inr h))⟩
    | false =>
      have hall2 : ∀ i ∈ nums (pre ++ [⟨X, hX⟩]), (cellB (blkB s (j + WH)) i).all (· == 255) = false := by
        intro i hi
        rw [HSN.out] at hi
        rcases List.mem_append.1 hi with h | h
        · exact hall i h
        · rw [List.mem_singleton.1 h]; exact HALL.out
      have HA2 : Hid (∀ i ∈ nums (pre ++ [⟨X, hX⟩]), (cellB (blkB s (j + WH)) i).all (· == 255) = false) := hall2
      clear hall2 hall
      gi_wp2
      exact ⟨hk5, hc5, HA2.out, hcv.trans hc5 (fun _ _ h => h)⟩
  case done =>
    rintro D ys V hDD hS ⟨hall, hcv⟩ hKD
    have hrn : roomI (blkB s (j + WH)) ((b0 : Int) - 1) = none := roomX_none hb0 (fun i hi => hall i (by rw [hS]; exact hi))
    rw [hrn] at HRE
    clear hrn hall hS
    have hDl : D < V.heap.size := (Array.getElem?_eq_some_iff.1 hKD).1
    have hDW : W1.heap.size ≤ D := hDD
    have p0 := n0.chg hcv (by show ¬ W1.heap.size ≤ Bp; omega)
    have p1 := n1.chg hcv (by show ¬ W1.heap.size ≤ P1; omega)
    have p2 := n2.chg hcv (by show ¬ W1.heap.size ≤ E1; omega)
    have pX : BX V L g j base wv x s := HX1.out.chg hcv (fun q hq => ⟨fun e => by have := hlw q e; have h9 : W1.heap.size ≤ q := hq; omega, by have h9 : W1.heap.size ≤ q := hq; omega, fun e => by have := (HX1.out.row.lt q e).2; have h9 : W1.heap.size ≤ q := hq; omega⟩)
    have hBW : Below w.heap.size w V := hBW1.trans (hcv.below (B := w.heap.size) (fun q hq => by have h9 : W1.heap.size ≤ q := hq; omega) (by omega))
    have hsV := hcv.size
    obtain ⟨O, hO⟩ : ∃ O : Nat, O = 1 - WH := ⟨_, rfl⟩
    have hw1 : IntKind.i64.wrap (1 - (WH : Int)) = (O : Int) := by rw [IntKind.wrap_i64]; omega
    have hO1 : O ≤ 1 := by omega
    rw [← hO] at HRE
    clear hO
    obtain ⟨Bo, hBo⟩ : ∃ B, B = V.heap.size := ⟨_, rfl⟩
    have hbV := (Below.refl V.heap.size V).alloc (Nat.le_refl _) (.cells #[.int .i64 (O : Int)] 3)
    have kO : Blk (V.alloc (.cells #[.int .i64 (O : Int)] 3)) Bo 3 #[.int .i64 (O : Int)] := by rw [hBo]; exact Blk.new _ _ _
    have q0 := p0.below hbV p0.lt
    have q1 := p1.below hbV p1.lt
    have q2 := p2.below hbV p2.lt
    have qX := pX.after hbV
    have d0 := p0.cell (j := 0) rfl
    have d8 : V.cell? ⟨g, 8, none⟩ = some (.int .i64 (WH : Int)) := by rw [HWH.out]; exact pX.blk.cell (j := 8) rfl
    have e0 := q0.cell (j := 0) rfl
    have e2 : (V.alloc (.cells #[.int .i64 (O : Int)] 3)).cell? ⟨g, 2, none⟩ = some wv := qX.blk.cell (j := 2) rfl
    have HCO : Hid (Calls Tryd.prog 45 #[wv, .func (.func 46) #[] #[.pointer (some ⟨Bo, 0, none⟩)]] (V.alloc (.cells #[.int .i64 (O : Int)] 3)) fun e w' => e = .returned (.bool (x.wt.any (fun e => ((e.wh : Nat) : Int) == (O : Int)))) ∧ Below (V.alloc (.cells #[.int .i64 (O : Int)] 3)).heap.size (V.alloc (.cells #[.int .i64 (O : Int)] 3)) w') := containsR base wv x.wt Bo (O : Int) _ (Nat.le_trans qX.len (by decide)) qX.row (kO.cell (j := 0) rfl)
    have hany : x.wt.any (fun e => ((e.wh : Nat) : Int) == (O : Int)) = x.wt.any (fun e => e.wh == O) := by
      congr 1
      funext e
      rw [Bool.eq_iff_iff, beq_iff_eq, beq_iff_eq]
      omega
    rw [hany] at HCO
    clear hany
    generalize x.wt.any (fun e => e.wh == O) = AN at *
    obtain ⟨wa, wn, wc, hwv⟩ : ∃ a n c, wv = .slice a n c := by obtain ⟨a, c, h⟩ := pX.row.shape; exact ⟨a, _, c, h⟩
    have hBoV : W1.heap.size ≤ Bo := by omega
    have hBoD : Bo ≠ D := by omega
    have HQX : Hid (BX (V.alloc (.cells #[.int .i64 (O : Int)] 3)) L g j base wv x s) := qX
    clear p0 p1 p2 pX qX
    rw [hwv] at HCO e2
    have HWV : Hid (wv = .slice wa wn wc) := hwv
    clear hwv
    have hKDa : (V.alloc (.cells #[.int .i64 (O : Int)] 3)).heap[D]? = some (.deferred (some [])) := (Below.heap_alloc _ _ _ hDl).trans hKD
    gi_wp2_with fail
    rw [← hBo]
    generalize V.alloc (.cells #[.int .i64 (O : Int)] 3) = U at *
    refine (callsIn_wide.2 HCO.out).mono ?_
    rintro e U1 ⟨rfl, hbU⟩
    clear HCO d0 d8 e0 e2 hBo
    have r0 := q0.below hbU q0.lt
    have r1 := q1.below hbU q1.lt
    have r2 := q2.below hbU q2.lt
    have rO := kO.below hbU kO.lt
    have rX := HQX.out.after hbU
    have hKDu : U1.heap[D]? = some (.deferred (some [])) := by rw [hbU.block _ (Array.getElem?_eq_some_iff.1 hKDa).1]; exact hKDa
    have hBU : Below w.heap.size w U1 := (hBW.trans (hbV.mono hBW.size)).trans (hbU.mono (Nat.le_trans hBW.size hbV.size))
    clear q0 q1 q2 kO HQX hbU hKDa
    cases AN with
    | true =>
      rw [if_pos rfl] at HRE
      have g10 := r1.cell (j := 0) rfl
      have z10 := r1.frozen 0
      have g11 := r1.cell (j := 1) rfl
      have z11 := r1.frozen 1
      have g20 := r2.cell (j := 0) rfl
      have z20 := r2.frozen 0
      have hPE := hBl.2.2.2.2.2
      have hcW : Chg (fun q => q = P1 ∨ q = E1) U1 (((U1.setCell ⟨P1, 0, none⟩ (.int .i64 0)).setCell ⟨P1, 1, none⟩ (.int .i64 0)).setCell ⟨E1, 0, none⟩ (.int .i64 3)) := (((Chg.refl (fun q => q = P1 ∨ q = E1) U1).setCell P1 0 _ (fun _ => .inl rfl)).setCell P1 1 _ (fun _ => .inl rfl)).setCell E1 0 _ (fun _ => .inr rfl)
      have y1 : Blk (((U1.setCell ⟨P1, 0, none⟩ (.int .i64 0)).setCell ⟨P1, 1, none⟩ (.int .i64 0)).setCell ⟨E1, 0, none⟩ (.int .i64 3)) P1 61 #[.int .i64 0, .int .i64 0] := ((r1.set 0 (.int .i64 0)).set 1 (.int .i64 0)).setOther _ _ hPE
      have y2 : Blk (((U1.setCell ⟨P1, 0, none⟩ (.int .i64 0)).setCell ⟨P1, 1, none⟩ (.int .i64 0)).setCell ⟨E1, 0, none⟩ (.int .i64 3)) E1 28 #[.int .i64 3] := ((r2.setOther _ _ (fun e => hPE e.symm)).setOther _ _ (fun e => hPE e.symm)).set 0 (.int .i64 3)
      have hKD2 : (((U1.setCell ⟨P1, 0, none⟩ (.int .i64 0)).setCell ⟨P1, 1, none⟩ (.int .i64 0)).setCell ⟨E1, 0, none⟩ (.int .i64 3)).heap[D]? = some (.deferred (some [])) := by rw [hcW.2 D (Array.getElem?_eq_some_iff.1 hKDu).1 (by omega)]; exact hKDu
      gi_wp2
      (try simp only [Exit.noGoto])
      generalize ((U1.setCell ⟨P1, 0, none⟩ (.int .i64 0)).setCell ⟨P1, 1, none⟩ (.int .i64 0)).setCell ⟨E1, 0, none⟩ (.int .i64 3) = U2 at *
      have hc9 : Chg (fun q => q = D) U2 (U2.putObj D (.deferred none)) := Chg.of_grown (grownBy_putObj' _ D (.deferred none)) (fun k e => by cases e; rfl)
      refine ⟨by simp, .inl ⟨_, _, rfl, run_takeDeferred hKD2, ?_⟩⟩
      refine ⟨_, roomO_results _ _ _ _ _ _ _ rfl rfl (y1.chg hc9 (by omega)) ((y2.chg hc9 (by omega)).cell (j := 0) rfl), ?_⟩
      rw [HRE.out]
      have hoff : ∀ q, w.heap.size ≤ q → ¬ L.T q ∧ q ≠ g ∧ wv.ownBlock ≠ some q := fun q hq => ⟨fun e => by have := hlw q e; omega, by omega, fun e => by have := h.row.lt q e; omega⟩
      refine ⟨rfl, (rX.chg hcW (fun q hq => hoff q (by omega))).chg hc9 (fun q hq => hoff q (by omega)), Chg.of_below ((hBU.trans (hcW.below (B := w.heap.size) (fun q hq => by omega) hBU.size)).trans (hc9.below (B := w.heap.size) (fun q hq => by omega) (Nat.le_trans hBU.size hcW.size))) (Nat.le_refl _)⟩
    | false =>
      rw [if_neg (by decide)] at HRE
      have hee : eraseF s ((j + O : Nat) : Int) = eraseF s ((j : Int) + (O : Int)) := by rw [Int.natCast_add]
      rw [hee] at HRE
      clear hee
      have HCL : Hid (∀ V, Blk V Bp 31 #[.pointer (some ⟨g, 0, none⟩)] → (∃ z, Blk V g 67 (boxC L j wv z)) → Blk V Bo 3 #[.int .i64 (O : Int)] → V.cell? ⟨Bp, 0, none⟩ = some (.pointer (some ⟨g, 0, none⟩)) ∧ V.cell? ⟨g, 0, none⟩ = some (.pointer (some ⟨L.g, 0, none⟩)) ∧ V.cell? ⟨g, 1, none⟩ = some (.int .i64 (j : Int)) ∧ V.cell? ⟨Bo, 0, none⟩ = some (.int .i64 (O : Int))) := fun V h1 ⟨z, h2⟩ h3 => ⟨h1.cell (j := 0) rfl, h2.cell (j := 0) rfl, h2.cell (j := 1) rfl, h3.cell (j := 0) rfl⟩
      have hS0 := HCL.out U1.drew r0.drew ⟨x, rX.blk.drew⟩ rO.drew
      have HER : Hid (Calls Tryd.prog 47 #[.pointer (some ⟨L.g, 0, none⟩), .int .i64 ((j : Int) + (O : Int))] U1.drew fun e w' => e = .returned (.int .i64 (eraseF s ((j : Int) + (O : Int))).1) ∧ PFlash w' L (eraseF s ((j : Int) + (O : Int))).2 ∧ Chg L.T U1.drew w') := erase6_any L s _ _ (thePF.after rX.fl (Below.refl _ _).drew)
      generalize eraseF s ((j : Int) + (O : Int)) = ER at *
      have hnT : ∀ q, w.heap.size ≤ q → ¬ L.T q := fun q hq h => by have := hlw q h; omega
      gi_wp2_with fail
      refine wpIn_wide.2 ?_
      refine held_begin (fun V => V.cell? ⟨Bp, 0, none⟩ = some (.pointer (some ⟨g, 0, none⟩)) ∧ V.cell? ⟨g, 0, none⟩ = some (.pointer (some ⟨L.g, 0, none⟩)) ∧ V.cell? ⟨g, 1, none⟩ = some (.int .i64 (j : Int)) ∧ V.cell? ⟨Bo, 0, none⟩ = some (.int .i64 (O : Int))) (by kernel_rfl) ?_
      refine held_take 0 44 _ (.int .i64 (O : Int)) rfl rfl (by kernel_rfl) (by kernel_rfl) (by kernel_rfl) rfl hS0 (fun V hV => exec_loadc 3 _ rfl _ _ rfl (load_one 3 (fun _ => by kernel_rfl) V _ _ _ hV.2.2.2)) ?_
      simp only [Act.put, List.setIfInBounds_toArray, List.set_cons_succ, List.set_cons_zero]
      refine held_take 1 45 _ (.agg #[.int .i64 (O : Int), .int .i64 0]) rfl rfl (by kernel_rfl) (by kernel_rfl) (by kernel_rfl) rfl hS0 (fun _ _ => by kernel_rfl) ?_
      simp only [Act.put, List.setIfInBounds_toArray, List.set_cons_succ, List.set_cons_zero]
      refine held_take 2 46 _ (.pointer (some ⟨g, 0, none⟩)) rfl rfl (by kernel_rfl) (by kernel_rfl) (by kernel_rfl) rfl hS0 (fun V hV => exec_loadc 31 _ rfl _ _ rfl (load_one 31 (fun _ => by kernel_rfl) V _ _ _ hV.1)) ?_
      simp only [Act.put, List.setIfInBounds_toArray, List.set_cons_succ, List.set_cons_zero]
      refine held_take 3 47 _ (.pointer (some ⟨g, 0, none⟩)) rfl rfl (by kernel_rfl) (by kernel_rfl) (by kernel_rfl) rfl hS0 (fun V hV => exec_loadc 31 _ rfl _ _ rfl (load_one 31 (fun _ => by kernel_rfl) V _ _ _ hV.1)) ?_
      simp only [Act.put, List.setIfInBounds_toArray, List.set_cons_succ, List.set_cons_zero]
      refine held_take 4 48 _ (.pointer (some ⟨g, 0, none⟩)) rfl rfl (by kernel_rfl) (by kernel_rfl) (by kernel_rfl) rfl hS0 (fun _ _ => rfl) ?_
      simp only [Act.put, List.setIfInBounds_toArray, List.set_cons_succ, List.set_cons_zero]
      refine held_take 5 49 _ (.pointer (some ⟨g, 0, none⟩)) rfl rfl (by kernel_rfl) (by kernel_rfl) (by kernel_rfl) rfl hS0 (fun _ _ => rfl) ?_
      simp only [Act.put, List.setIfInBounds_toArray, List.set_cons_succ, List.set_cons_zero]
      refine held_take 6 50 _ (.pointer (some ⟨L.g, 0, none⟩)) rfl rfl (by kernel_rfl) (by kernel_rfl) (by kernel_rfl) rfl hS0 (fun V hV => exec_loadc 27 _ rfl _ _ rfl (load_one 27 (fun _ => by kernel_rfl) V _ _ _ hV.2.1)) ?_
      simp only [Act.put, List.setIfInBounds_toArray, List.set_cons_succ, List.set_cons_zero]
      refine held_take 7 51 _ (.pointer (some ⟨g, 0, none⟩)) rfl rfl (by kernel_rfl) (by kernel_rfl) (by kernel_rfl) rfl hS0 (fun V hV => exec_loadc 31 _ rfl _ _ rfl (load_one 31 (fun _ => by kernel_rfl) V _ _ _ hV.1)) ?_
      simp only [Act.put, List.setIfInBounds_toArray, List.set_cons_succ, List.set_cons_zero]
      refine held_take 8 52 _ (.pointer (some ⟨g, 0, none⟩)) rfl rfl (by kernel_rfl) (by kernel_rfl) (by kernel_rfl) rfl hS0 (fun _ _ => rfl) ?_
      simp only [Act.put, List.setIfInBounds_toArray, List.set_cons_succ, List.set_cons_zero]
      refine held_take 9 53 _ (.pointer (some ⟨g, 1, none⟩)) rfl rfl (by kernel_rfl) (by kernel_rfl) (by kernel_rfl) rfl hS0 (fun _ _ => rfl) ?_
      simp only [Act.put, List.setIfInBounds_toArray, List.set_cons_succ, List.set_cons_zero]
      refine held_take 10 54 _ (.int .i64 (j : Int)) rfl rfl (by kernel_rfl) (by kernel_rfl) (by kernel_rfl) rfl hS0 (fun V hV => exec_loadc 3 _ rfl _ _ rfl (load_one 3 (fun _ => by kernel_rfl) V _ _ _ hV.2.2.1)) ?_
      simp only [Act.put, List.setIfInBounds_toArray, List.set_cons_succ, List.set_cons_zero]
      refine held_take 11 55 _ (.int .i64 (O : Int)) rfl rfl (by kernel_rfl) (by kernel_rfl) (by kernel_rfl) rfl hS0 (fun V hV => exec_loadc 3 _ rfl _ _ rfl (load_one 3 (fun _ => by kernel_rfl) V _ _ _ hV.2.2.2)) ?_
      simp only [Act.put, List.setIfInBounds_toArray, List.set_cons_succ, List.set_cons_zero]
      refine held_take 12 56 _ (.int .i64 ((j : Int) + (O : Int))) rfl rfl (by kernel_rfl) (by kernel_rfl) (by kernel_rfl) rfl hS0 (fun V _ => exec_add9 3 _ _ rfl (j : Int) (O : Int) rfl rfl (by omega) (by omega)) ?_
      simp only [Act.put, List.setIfInBounds_toArray, List.set_cons_succ, List.set_cons_zero]
      refine held_all1 13 (by kernel_rfl) (op_call 13 57 _ 47 #[.pointer (some ⟨L.g, 0, none⟩), .int .i64 ((j : Int) + (O : Int))] rfl rfl rfl (exec_two8 47 _ _ _ rfl _ _ rfl rfl Tryd.call47) (HER.out.mono ?_))
      rintro e U2 ⟨rfl, hD2, hc2⟩
      have hc2' : Chg L.T U1 U2 := ((Chg.refl L.T U1).drew).trans hc2 (fun _ _ h => h)
      have s0 := r0.chg hc2' (hnT _ (by omega))
      have s1 := r1.chg hc2' (hnT _ (by omega))
      have s2 := r2.chg hc2' (hnT _ (by omega))
      have sO := rO.chg hc2' (hnT _ (by omega))
      have sK := rX.blk.chg hc2' rX.gT
      have sR := rX.row.chg hc2' (fun q hq => (rX.rT q hq).1)
      have hKD2 : U2.heap[D]? = some (.deferred (some [])) := by rw [hc2'.2 D (Array.getElem?_eq_some_iff.1 hKDu).1 (hnT D (by omega))]; exact hKDu
      have hS2 := HCL.out U2 s0 ⟨x, sK⟩ sO
      refine ⟨_, rfl, hS2, ?_⟩
      simp only [Act.put, List.setIfInBounds_toArray, List.set_cons_succ, List.set_cons_zero]
      refine held_all1 14 (by kernel_rfl) (op_call 14 58 _ 28 #[.pointer (some ⟨g, 0, none⟩), .int .i64 ER.1] rfl rfl rfl (exec_two8 28 _ _ _ rfl _ _ rfl rfl Tryd.call28) ((doneX L g j wv x ER.1 U2 sK).mono ?_))
      rintro e U3 ⟨rfl, tK, hc3⟩
      have t0 := s0.chg hc3 (by omega)
      have t1 := s1.chg hc3 (by omega)
      have t2 := s2.chg hc3 (by omega)
      have tO := sO.chg hc3 (by omega)
      have tR := sR.chg hc3 (fun q hq e => (rX.rT q hq).2 e)
      have tD := hD2.chg hc3 (fun q hq e => rX.gT (by rw [← e]; exact hq))
      have hKD3 : U3.heap[D]? = some (.deferred (some [])) := by rw [hc3.2 D (Array.getElem?_eq_some_iff.1 hKD2).1 (by omega)]; exact hKD2
      have hS3 := HCL.out U3 t0 ⟨_, tK⟩ tO
      refine ⟨_, rfl, hS3, ?_⟩
      simp only [Act.put, List.setIfInBounds_toArray, List.set_cons_succ, List.set_cons_zero]
      refine held_all1 15 (by kernel_rfl) (op_row 15 _ rfl rfl rfl 61 _ _ rfl P1 #[.int .i64 (O : Int), .int .i64 0] rfl rfl 61 _ t1 info_place12 rfl (by simp [Value.oneCell']) ?_)
      intro U4 y1 hg4 hs4
      have hc4 : Chg (fun q => q = P1) U3 U4 := Chg.of_grown hg4 (fun k e => by cases e; rfl)
      have u0 := t0.chg hc4 (by omega)
      have u2 := t2.chg hc4 (by omega)
      have uO := tO.chg hc4 (by omega)
      have uK := tK.chg hc4 (by omega)
      have hS4 := HCL.out U4 u0 ⟨_, uK⟩ uO
      refine ⟨hS4, ?_⟩
      have hc5 : Chg (fun q => q = E1) U4 (U4.setCell ⟨E1, 0, none⟩ (.int .i64 ER.1)) := (Chg.refl _ _).setCell E1 0 _ (fun _ => rfl)
      have z1 := y1.chg hc5 (by omega)
      have z2 : Blk (U4.setCell ⟨E1, 0, none⟩ (.int .i64 ER.1)) E1 28 #[.int .i64 ER.1] := u2.set 0 (.int .i64 ER.1)
      have hS5 := HCL.out _ (u0.chg hc5 (by omega)) ⟨_, uK.chg hc5 (by omega)⟩ (uO.chg hc5 (by omega))
      refine held_all1 16 (by kernel_rfl) (op_skip 16 _ _ rfl rfl rfl (exec_storeE9 _ _ rfl E1 0 ER.1 _ rfl rfl (u2.cell (j := 0) rfl) (u2.frozen 0)) ⟨hS5, ?_⟩)
      refine wpAnyH_done (by kernel_rfl) ?_ _
      refine NoPanic.normal ?_
      have hc35 : Chg (fun q => q = P1 ∨ q = E1) U3 (U4.setCell ⟨E1, 0, none⟩ (.int .i64 ER.1)) := (hc4.weaken (fun _ h => .inl h)).trans hc5 (fun _ _ h => .inr h)
      have hKD5 : (U4.setCell ⟨E1, 0, none⟩ (.int .i64 ER.1)).heap[D]? = some (.deferred (some [])) := by rw [hc35.2 D (Array.getElem?_eq_some_iff.1 hKD3).1 (by omega)]; exact hKD3
      generalize U4.setCell ⟨E1, 0, none⟩ (.int .i64 ER.1) = U5 at *
      have hc9 : Chg (fun q => q = D) U5 (U5.putObj D (.deferred none)) := Chg.of_grown (grownBy_putObj' _ D (.deferred none)) (fun k e => by cases e; rfl)
      have hoff : ∀ q, w.heap.size ≤ q → ¬ L.T q ∧ q ≠ g ∧ wv.ownBlock ≠ some q := fun q hq => ⟨fun e => by have := hlw q e; omega, by omega, fun e => by have := h.row.lt q e; omega⟩
      have hX3 : BX U3 L g j base wv { x with br := ER.1 != 0 } ER.2 := ⟨tK, tR, tD, rX.gT, rX.rT, rX.len⟩
      clear HCL HER hS0 hS2 hS3 hS4 hS5
      gi_wp2
      (try simp only [Exit.noGoto])
      refine ⟨by simp, .inl ⟨_, _, rfl, run_takeDeferred hKD5, ?_⟩⟩
      refine ⟨_, roomO_results _ _ _ _ _ _ _ rfl rfl (z1.chg hc9 (by omega)) ((z2.chg hc9 (by omega)).cell (j := 0) rfl), ?_⟩
      rw [HRE.out]
      refine ⟨rfl, (hX3.chg hc35 (fun q hq => hoff q (by omega))).chg hc9 (fun q hq => hoff q (by omega)), ?_⟩
      exact ((((Chg.of_below (S := fun q => L.T q ∨ q = g) hBU (Nat.le_refl _)).trans hc2' (fun _ _ h => .inl h)).trans hc3 (fun _ _ h => .inr h)).trans hc35 (fun q hq e => by omega)).trans hc9 (fun q hq e => by omega)
  case stop =>
    rintro D c pre V hDD ⟨kk, hkk, hr⟩ ⟨rfl, q, i, hq, hall, hfi, y1, y2, hc⟩ hKD
    have hrs : roomI (blkB s (j + WH)) ((b0 : Int) - 1) = some i := roomX_some hb0 hkk (hr.symm.trans hq) hall hfi
    rw [hrs] at HRE
    have hDW : W1.heap.size ≤ D := hDD
    have hc9 : Chg (fun q => q = D) V (V.putObj D (.deferred none)) := Chg.of_grown (grownBy_putObj' _ D (.deferred none)) (fun k e => by cases e; rfl)
    have hBW : Below w.heap.size w V := hBW1.trans (hc.below (B := w.heap.size) (fun q hq => by omega) (by omega))
    have pX : BX V L g j base wv x s := HX1.out.chg hc (fun q hq => by
      have hq2 : w.heap.size ≤ q := by omega
      exact ⟨fun e => by have := hlw q e; omega, by omega, fun e => by have := (HX1.out.row.lt q e).2; have := h.row.lt q e; omega⟩)
    clear hrs hr hq hall hfi
    gi_wp2
    (try simp only [Exit.noGoto])
    refine ⟨by simp, .inl ⟨_, _, rfl, run_takeDeferred hKD, ?_⟩⟩
    refine ⟨_, roomO_results _ _ _ _ _ _ _ rfl rfl (y1.chg hc9 (by omega)) ((y2.chg hc9 (by omega)).cell (j := 0) rfl), ?_⟩
    rw [HRE.out]
    refine ⟨rfl, pX.chg hc9 (fun q hq => ?_), Chg.of_below (hBW.trans (hc9.below (B := w.heap.size) (fun q hq => by omega) hBW.size)) (Nat.le_refl _)⟩
    subst hq
    exact ⟨fun e => by have := hlw q e; omega, by omega, fun e => by have := h.row.lt q e; omega⟩
end Go.Proofs.YtgoehohadnkpdaaDoor
