/-
  What is proved here: manifest.Make answers as the plain function does.
  Conditions: those that each fact names.
-/
import Derived.Test.YthophonofaaafaaDoorJManSums
namespace Go.Proofs.YthophonofaaafaaDoor
open Go.RowKit
attribute [local go_sem] Oper.semAt_some

theorem splice_all (old cells : Array Value) (h : old.size = cells.size) : (splice old.toList 0 cells.toList).toArray = cells := by
  unfold splice
  rw [List.take_zero, List.nil_append, List.drop_of_length_le (by simp [h]), List.append_nil]
theorem splice_hash (m : MM) (su : Value) (h : List UInt8) (h0 : m.h.length = 32) (h1 : h.length = 32) : (splice (manC m su).toList 3 (h.map v8)).toArray = manC { m with h := h } su := by
  unfold splice manC manL
  simp [h0, h1]
theorem man_set (m : MM) (su su' : Value) (h : m.h.length = 32) : (manC m su).setIfInBounds 35 su' = manC m su' := by
  unfold manC manL
  rw [List.setIfInBounds_toArray]
  congr 1
  simp only [List.set_cons_succ]
  rw [List.set_append_right _ _ (by simp [h])]
  simp [h]
theorem results_pairM {P : Program} {fn : Func} {p u : Tmp} {ty : TypeId} (h : fn.results = #[.cell p ty, .tmp u]) (tmps : Array Value) (w : World) (g : Nat) (t : TypeId) (cs : Array Value) (fr : Nat × Nat) (d : TypeDesc) (v : Value)
    (hp : tmps.getD p undef = .pointer (some ⟨g, 0, none⟩)) (hv : tmps.getD u undef = v) (hg : w.heap[g]? = some (.cells cs t fr))
    (hu : P.underlying ty = some d) (hd : (match d with | .struct _ | .array _ _ => true | _ => false) = true) (hi : (P.info? ty).map (·.size) = some cs.size) :
    (results fn tmps).run P w = .ok (.tuple #[.agg cs, v]) w := by
  have hp' : tmps[p]?.getD undef = .pointer (some ⟨g, 0, none⟩) := by simpa using hp
  have hv' : tmps[u]?.getD undef = v := by simpa using hv
  simp [results, h, hp', hv', asAddr, run_loadVar_row w g t ty cs fr d hg hu hd hi]
theorem lin_store {F : Fence} {nF : Nat} {ops : Array Oper} {rest : List Oper} {o : Oper} {a : Act} {w : World} {Q : Exit → Act → World → Prop} (hF : ∀ f, F.fn f) (hgd : o.guard = none) (ty : TypeId) (x y : Operand) (ho : o.op = .store ty x y) (hd : o.dst = none)
    (g off : Nat) (cells : Array Value) (hx : a.eval x = .pointer (some ⟨g, off, none⟩)) (hy : a.eval y = .agg cells) (t : TypeId) (old new : Array Value) (hg : Blk w g t old) (hi : (Tryd.prog.info? ty).map (·.size) = some cells.size) (hfit : off + cells.size ≤ old.size) (h1 : cells.all (·.oneCell') = true)
    (hnew : (splice old.toList off cells.toList).toArray = new)
    (hK : ∀ w', Blk w' g t new → w.grownBy w' (some g) → w'.heap.size = w.heap.size → wpListIn F nF Tryd.prog ops Q rest a w') : wpListIn F nF Tryd.prog ops Q (o :: rest) a w := by
  have hth : w.there g off cells.size := fun j hj => ⟨by rw [hg.cell (v := old[off + j]'(by omega)) (by simp [show off + j < old.size by omega])]; rfl, hg.frozen _⟩
  obtain ⟨h2, h3⟩ := grown_setCells g cells.toList off w
  refine lin_skip hF hgd (fun c hc => by rw [ho] at hc; cases hc) (w.setCells g off cells.toList) ?_ ?_
  · unfold execOp
    simp only [ho, hx, hy, Instr.storeAt, Instr.sureAddr, Sem.run_bind, Sem.run_pure, Result.andThen_ok, run_storeVar_mid w g off ty cells hth hi h1]
  · rw [hd]
    refine hK _ ?_ h2 h3
    rw [← hnew]
    exact Blk.setCells cells.toList off w old hg (by simpa using hfit)

set_option maxRecDepth 100000 in
set_option maxHeartbeats 1000000 in
theorem make_no (v : Int) (bv : Value) (bs : List UInt8) (c : Int) (w : World) (_hbl : bs.length ≤ 1000000000) (hseg : Seg w bv bs) (hn : ¬ numsOk (numsM v bs c)) :
    Calls Tryd.prog 10 #[.int .i64 v, bv, .int .i64 c] w fun e w' => e = .returned (.tuple #[manV zeroM (.slice none 0 0), .int .i64 1]) ∧ Below w.heap.size w w' := by
  obtain ⟨ab, cb, rfl⟩ := hseg.shapeD
  have hbu : Tryd.prog.built 27 [(0, .int .i64 v), (1, .int .i64 bs.length), (2, .int .i64 c)] = some (manC (numsM v bs c) (.slice none 0 0)) := built_three v bs.length c
  have hbz := built_zero
  have HNU : Hid (∀ W, Calls Tryd.prog 29 #[manV (numsM v bs c) (.slice none 0 0)] W fun e w' => e = .returned (.bool false) ∧ Below W.heap.size W w') := fun W => by
    have := nums_any (numsM v bs c) (.slice none 0 0) W (by simp [numsM])
    rw [decide_eq_false hn] at this
    exact this
  have hiM := manC_info (numsM v bs c) (.slice none 0 0) (by simp [numsM])
  have hiZ := manC_info zeroM (.slice none 0 0) (by simp [zeroM])
  have hoM := manC_one (numsM v bs c) (.slice none 0 0) rfl
  have hoZ := manC_one zeroM (.slice none 0 0) rfl
  have HSZ : Hid ((manC zeroM (.slice none 0 0)).size = (manC (numsM v bs c) (.slice none 0 0)).size) := (manC_size _ _ (by simp [zeroM])).trans (manC_size _ _ (by simp [numsM])).symm
  have hz := zeroMan
  clear hseg hn
  unfold manV at *
  generalize manC (numsM v bs c) (.slice none 0 0) = MC at *
  generalize manC zeroM (.slice none 0 0) = Z at *
  go_enter Tryd.func10, Tryd.ntmps10
  go_wp2_with (first | (refine build_as rfl 27 _ rfl MC (by exact hbu) ?_) | (refine store_blk rfl 27 _ _ rfl rfl (w.heap.size + 1) MC rfl rfl 27 Z (by exact Blk.newAt _ _ _ _ (by simp)) hiM HSZ.out hoM ?_; intro W3 k8 hg8 hs8) | (refine wpList_load_row rfl 27 _ rfl (w.heap.size + 1) rfl 27 MC (0, 0) _ k8 Tryd.underlying27 rfl hiM ?_))
  have hB2 : Below w.heap.size w ((w.alloc (.cells Z 27)).alloc (.cells Z 27)) := ((Below.refl _ _).alloc (Nat.le_refl _) _).alloc (by simp) _
  have hB3 : Below w.heap.size w W3 := below_grown hB2 hg8 hB2.size (fun q hq => by cases hq; omega)
  have k6 : Blk W3 w.heap.size 27 Z := ((Blk.new w 27 Z).alloc _).grown hg8 (by simp)
  clear hg8 hs8 hbu k8
  refine (HNU.out _).mono ?_
  rintro e w4 ⟨rfl, hb4⟩
  have q6 := k6.below hb4 k6.lt
  have hB4 : Below w.heap.size w w4 := hB3.trans (hb4.mono hB3.size)
  clear k6 hb4 hB3 hB2
  go_wp2_with (first | (refine build_as rfl 27 _ rfl Z (by exact hbz) ?_) | (refine store_blk rfl 27 _ _ rfl rfl w.heap.size Z rfl rfl 27 Z q6 hiZ rfl hoZ ?_; intro W5 k5 hg5 hs5))
  have hB5 : Below w.heap.size w W5 := below_grown hB4 hg5 hB4.size (fun q hq => by cases hq; omega)
  exact bodyPost_ret (results_pairM rfl _ _ w.heap.size 27 Z (0, 0) _ _ rfl rfl k5 Tryd.underlying27 rfl hiZ) rfl ⟨rfl, hB5⟩

theorem OwnW.mono {w : World} {base base' : Nat} {v : Value} {u : List (BitVec 32)} (h : OwnW w base v u) (hb : base' ≤ base) : OwnW w base' v u := by
  refine ⟨h.1, ?_⟩
  rcases h.2 with h2 | ⟨g, cap, cur, h1, h2, h3⟩
  · exact .inl h2
  · exact .inr ⟨g, cap, cur, h1, Nat.le_trans hb h2, h3⟩
theorem OwnW.keeps {W W' : World} {base : Nat} {v : Value} {u : List (BitVec 32)} (h : OwnW W base v u) (hg : W.grownBy W' v.ownBlock) : KeepsOthers W W' := by
  refine KeepsOthers.of_grownBy hg fun j o ej hj => ?_
  obtain ⟨cur, hb⟩ := h.blk j ej
  unfold Blk at hb
  rw [hb] at hj; cases hj; rfl
theorem OwnW.alloc {w : World} {base : Nat} {v : Value} {u : List (BitVec 32)} (h : OwnW w base v u) (o : Obj) : OwnW (w.alloc o) base v u := World.ownsRow.alloc h o
theorem grown_setCellM (w : World) (g i : Nat) (z : Value) : w.grownBy (w.setCell ⟨g, i, none⟩ z) (some g) := ⟨rfl, rfl, rfl, by simp, fun k _ hk => Below.heap_setCell w ⟨g, i, none⟩ z k (fun e => hk (by rw [e]))⟩
/-- The sums of chunks that came. -/
def sumsF {N : Nat} (bs : List UInt8) (C : Nat) (ys : List (Fin N)) : List (BitVec 32) := ys.map fun k => crcOf (chunkB bs C k.val)
theorem sumsF_all {N : Nat} (bs : List UInt8) (C : Nat) (ys : List (Fin N)) (h : numsF ys = List.range N) : sumsF bs C ys = sumsM bs C N := by
  unfold sumsF sumsM
  rw [← h]
  unfold numsF
  rw [List.map_map]
  rfl
/-- What holds when some sums have come. -/
def makesI {N : Nat} (w W7 : World) (v : Int) (bs : List UInt8) (C : Nat) (Z : Array Value) (pre : List (Fin N)) (W : World) : Prop :=
  (∃ su, Blk W (w.heap.size + 1) 27 (manC ⟨v, bs.length, C, shaOf bs, []⟩ su) ∧ OwnW W W7.heap.size su (sumsF bs C pre)) ∧ Blk W w.heap.size 27 Z ∧ Below w.heap.size w W ∧ W7.heap.size ≤ W.heap.size
theorem blk_not {W : World} {g : Nat} {t : TypeId} {arr : Array Value} (h : Blk W g t arr) {row : Option Nat} {B : Nat} (hr : ∀ r, row = some r → B ≤ r ∧ ∃ o : Obj, W.heap[r]? = some o ∧ o.isCells = false) : some g ≠ row := fun e => by
  obtain ⟨_, o, ho, hc⟩ := hr g e.symm
  unfold Blk at h
  rw [h] at ho; cases ho; cases hc
theorem makesI_own {N : Nat} (w W7 : World) (v : Int) (bs : List UInt8) (C : Nat) (Z : Array Value) (hs : w.heap.size ≤ W7.heap.size) : OwnFrom W7.heap.size (makesI (N := N) w W7 v bs C Z) := fun s W W' row ⟨⟨su, h1, h2⟩, h3, h4, h5⟩ hg hr =>
  ⟨⟨su, h1.grown hg (blk_not h1 hr), h2.grown hg (by
    cases hb : su.ownBlock with
    | none => exact .inl rfl
    | some k =>
      obtain ⟨cur, hk⟩ := h2.blk k hb
      exact .inr (blk_not hk hr))⟩, h3.grown hg (blk_not h3 hr), below_grown h4 hg h4.size (fun q hq => Nat.le_trans hs (hr q hq).1), Nat.le_trans h5 hg.size⟩

set_option maxRecDepth 100000 in
set_option maxHeartbeats 2000000 in
theorem make_yes (v : Int) (bv : Value) (bs : List UInt8) (c : Int) (w : World) (hseg : Seg w bv bs) (hn : numsOk (numsM v bs c)) (hg4 : 2 < w.heap.size) (hf4 : Tab w 2 (fours.map v32)) (hgf : 0 < w.heap.size) (hf : Tab w 0 (St.start.list.map v32)) (hgk : 1 < w.heap.size) (hk : Tab w 1 (kWords.map v32)) :
    Calls Tryd.prog 10 #[.int .i64 v, bv, .int .i64 c] w fun e w' => ∃ su, e = .returned (.tuple #[manV (makeM v bs c) su, .int .i64 0]) ∧ OwnW w' w.heap.size su (makeM v bs c).u ∧ Below w.heap.size w w' := by
  obtain ⟨ab, cb, rfl⟩ := hseg.shapeD
  have hbl : bs.length ≤ 32768 := by have := hn.2.1.2; simp only [numsM] at this; omega
  obtain ⟨C, rfl⟩ : ∃ C : Nat, c = C := ⟨c.toNat, (Int.toNat_of_nonneg (by have := hn.2.2.1.1; simp only [numsM] at this; omega)).symm⟩
  obtain ⟨N, hN⟩ : ∃ N : Nat, (N : Int) = countM (numsM v bs C) := ⟨(countM (numsM v bs C)).toNat, by have := countM_pos hn; omega⟩
  have hbu : Tryd.prog.built 27 [(0, .int .i64 v), (1, .int .i64 bs.length), (2, .int .i64 C)] = some (manC (numsM v bs C) (.slice none 0 0)) := built_three v bs.length C
  have HNU : Hid (∀ W, Calls Tryd.prog 29 #[manV (numsM v bs C) (.slice none 0 0)] W fun e w' => e = .returned (.bool true) ∧ Below W.heap.size W w') := fun W => by
    have := nums_any (numsM v bs C) (.slice none 0 0) W (by simp [numsM])
    rw [decide_eq_true hn] at this
    exact this
  have HSH : Hid (∀ V, Below w.heap.size w V → Calls Tryd.prog 30 #[.slice ab bs.length cb] V fun e w' => e = .returned (.agg ((shaOf bs).map v8).toArray) ∧ Below V.heap.size V w') := fun V hV => sum_any _ bs V (hseg.below hV (Nat.le_refl _)) (by omega) (Nat.lt_of_lt_of_le hgf hV.size) (hf.below hV hgf) (Nat.lt_of_lt_of_le hgk hV.size) (hk.below hV hgk)
  have hiM := manC_info (numsM v bs C) (.slice none 0 0) (by simp [numsM])
  have hiZ := manC_info zeroM (.slice none 0 0) (by simp [zeroM])
  have hoM := manC_one (numsM v bs C) (.slice none 0 0) rfl
  have hZM : (manC zeroM (.slice none 0 0)).size = 36 := manC_size _ _ (by simp [zeroM])
  have hMM : (manC (numsM v bs C) (.slice none 0 0)).size = 36 := manC_size _ _ (by simp [numsM])
  have hHM := splice_hash (numsM v bs C) (.slice none 0 0) (shaOf bs) (by simp [numsM]) (wbytes_len _)
  have hSP := splice_all (manC zeroM (.slice none 0 0)) (manC (numsM v bs C) (.slice none 0 0)) (by rw [hZM, hMM])
  have HSP : Hid ((splice (manC zeroM (.slice none 0 0)).toList 0 (manC (numsM v bs C) (.slice none 0 0)).toList).toArray = manC (numsM v bs C) (.slice none 0 0)) := hSP
  have hMS : ((shaOf bs).map v8).toArray.size = 32 := by simp [show (shaOf bs).length = 32 from wbytes_len _]
  have hiS : (Tryd.prog.info? 24).map (·.size) = some ((shaOf bs).map v8).toArray.size := by rw [hMS]; kernel_rfl
  have hoS := one8 (shaOf bs)
  have HF0 : Hid (0 + (manC (numsM v bs C) (.slice none 0 0)).size ≤ (manC zeroM (.slice none 0 0)).size) := by show _ ≤ _; omega
  have HF3 : Hid (3 + ((shaOf bs).map v8).toArray.size ≤ (manC (numsM v bs C) (.slice none 0 0)).size) := by show _ ≤ _; omega
  have hz := zeroMan
  have hfnN : Fence.wide.fn 29 := trivial
  have hfnS : Fence.wide.fn 30 := trivial
  have hfnU : Fence.wide.fn 31 := trivial
  clear hSP hZM hMM hMS
  unfold manV at *
  obtain ⟨MC, hMC⟩ : ∃ MC, MC = manC (numsM v bs C) (.slice none 0 0) := ⟨_, rfl⟩
  obtain ⟨Z, hZ⟩ : ∃ Z, Z = manC zeroM (.slice none 0 0) := ⟨_, rfl⟩
  obtain ⟨SA, hSA⟩ : ∃ SA, SA = ((shaOf bs).map v8).toArray := ⟨_, rfl⟩
  obtain ⟨MH, hMH⟩ : ∃ MH, MH = manC ⟨v, bs.length, C, shaOf bs, []⟩ (.slice none 0 0) := ⟨_, rfl⟩
  have hiH : (Tryd.prog.info? 27).map (·.size) = some MH.size := by rw [hMH]; exact manC_info _ _ (wbytes_len _)
  have HHM : Hid ((splice MC.toList 3 SA.toList).toArray = MH) := by
    show _ = _
    rw [hSA, hMC, hMH]
    exact hHM
  clear hHM
  simp only [← hMC, ← hZ, ← hSA] at hbu HNU HSH hiM hiZ hoM hiS hoS HSP HF0 HF3 hz
  have HSU : Hid (∀ W, Calls Tryd.prog 31 #[.agg MH, .slice ab bs.length cb] W fun e w' => e = .returned (.func (.func 54) #[] #[.pointer (some ⟨W.heap.size, 0, none⟩), .pointer (some ⟨W.heap.size + 1, 0, none⟩)]) ∧ w' = (W.alloc (.cells MH 27)).alloc (.cells #[.slice ab bs.length cb] 22)) := fun W => by
    rw [hMH]
    exact sums_any _ _ _ _ _ _
  have HMH : Hid (MH = manC ⟨v, bs.length, C, shaOf bs, []⟩ (.slice none 0 0)) := hMH
  clear hMC hZ hSA hMH
  refine (callsIn_wide (n := 6)).1 ?_
  refine callsIn_of_wp_marks Tryd.func10 rfl trivial ?_ rfl
  simp only [Tryd.ntmps10, List.size_toArray, List.length_cons, List.length_nil, Nat.reduceAdd, Nat.reduceSub, Array.replicate_succ, Array.replicate_zero, List.push_toArray, List.append_toArray, List.nil_append, List.cons_append]
  gi_wp2_with (first | (refine lin_value (fun _ => trivial) rfl (fun c hc => by cases hc) (.agg MC) _ (exec_buildM 27 _ rfl MC (by exact hbu)) ?_) | (refine lin_store (fun _ => trivial) rfl 27 _ _ rfl rfl (w.heap.size + 1) 0 MC rfl rfl 27 Z MC (by exact Blk.newAt _ _ _ _ (by simp)) hiM HF0.out hoM HSP.out ?_; intro W3 k8 hg8 hs8) | (refine lin_value (fun _ => trivial) rfl (fun c hc => by cases hc) (.agg MC) _ (exec_loadM _ rfl (w.heap.size + 1) rfl k8 hiM) ?_))
  have hB2 : Below w.heap.size w ((w.alloc (.cells Z 27)).alloc (.cells Z 27)) := ((Below.refl _ _).alloc (Nat.le_refl _) _).alloc (by simp) _
  have hB3 : Below w.heap.size w W3 := below_grown hB2 hg8 hB2.size (fun q hq => by cases hq; omega)
  have k6 : Blk W3 w.heap.size 27 Z := ((Blk.new w 27 Z).alloc _).grown hg8 (by simp)
  clear hg8 hs8 hbu
  refine (callsIn_wide.2 (HNU.out _)).mono ?_
  rintro e w4 ⟨rfl, hb4⟩
  have q6 := k6.below hb4 k6.lt
  have q8 := k8.below hb4 k8.lt
  have hB4 : Below w.heap.size w w4 := hB3.trans (hb4.mono hB3.size)
  clear k6 k8 hb4 hB3 hB2 HNU
  gi_wp2_with fail
  refine (callsIn_wide.2 (HSH.out _ hB4)).mono ?_
  rintro e w5 ⟨rfl, hb5⟩
  have r6 := q6.below hb5 q6.lt
  have r8 := q8.below hb5 q8.lt
  have hB5 : Below w.heap.size w w5 := hB4.trans (hb5.mono hB4.size)
  clear q6 q8 hb5 hB4 HSH
  gi_wp2_with (first | (refine lin_store (fun _ => trivial) rfl 24 _ _ rfl rfl (w.heap.size + 1) 3 SA rfl rfl 27 MC MH r8 hiS HF3.out hoS HHM.out ?_; intro W6 k8 hg8 hs8) | (refine lin_value (fun _ => trivial) rfl (fun c hc => by cases hc) (.agg MH) _ (exec_loadM _ rfl (w.heap.size + 1) rfl k8 hiH) ?_))
  have hB6 : Below w.heap.size w W6 := below_grown hB5 hg8 hB5.size (fun q hq => by cases hq; omega)
  have k6 : Blk W6 w.heap.size 27 Z := r6.grown hg8 (by simp)
  clear r6 r8 hg8 hs8 hB5
  refine (callsIn_wide.2 (HSU.out _)).mono ?_
  rintro e w7 ⟨rfl, rfl⟩
  gi_wp2_with fail
  have l8 : w.heap.size + 1 < W6.heap.size := k8.lt
  have hB7 : Below w.heap.size w ((W6.alloc (.cells MH 27)).alloc (.cells #[.slice ab bs.length cb] 22)) := (hB6.alloc hB6.size _).alloc (by simp; have := hB6.size; omega) _
  have km : Blk ((W6.alloc (.cells MH 27)).alloc (.cells #[.slice ab bs.length cb] 22)) W6.heap.size 27 (manC ⟨v, bs.length, C, shaOf bs, []⟩ (.slice none 0 0)) := by rw [HMH.out]; exact (Blk.new _ _ _).alloc _
  have kn : Blk ((W6.alloc (.cells MH 27)).alloc (.cells #[.slice ab bs.length cb] 22)) (W6.heap.size + 1) 22 #[.slice ab bs.length cb] := Blk.newAt _ _ _ _ (by simp)
  have k8' : Blk ((W6.alloc (.cells MH 27)).alloc (.cells #[.slice ab bs.length cb] 22)) (w.heap.size + 1) 27 (manC ⟨v, bs.length, C, shaOf bs, []⟩ (.slice none 0 0)) := by rw [← HMH.out]; exact (k8.alloc _).alloc _
  have k6' := (k6.alloc (.cells MH 27)).alloc (.cells #[.slice ab bs.length cb] 22)
  have hsz7 : ((W6.alloc (.cells MH 27)).alloc (.cells #[.slice ab bs.length cb] 22)).heap.size = W6.heap.size + 2 := by simp
  obtain ⟨W7, hW7⟩ : ∃ W7, W7 = (W6.alloc (.cells MH 27)).alloc (.cells #[.slice ab bs.length cb] 22) := ⟨_, rfl⟩
  rw [← hW7] at hB7 km kn k8' k6' hsz7 ⊢
  clear hW7 k8 k6 HSU
  have hSs : ∀ k, (Value.slice ab bs.length cb).ownBlock = some k → 0 < bs.length → k < w.heap.size := fun k hk h0 => by
    obtain ⟨b, off, rfl, _, _, hb⟩ := hseg.formD h0
    simp [Value.ownBlock] at hk; omega
  have hb0 : 0 < bs.length := by have := hn.2.1.1; simp only [numsM] at this; omega
  have stops := sums_stops 5 (by decide) W6.heap.size (W6.heap.size + 1) (fun b => b = w.heap.size + 1 ∨ W7.heap.size ≤ b) v (shaOf bs) C bs (wbytes_len _) hn N hN ab cb W7
    (by intro h; omega) (by intro h; omega) (by intro h; omega) km kn (hseg.below hB7 (Nat.le_refl _)) (fun k hk h => by have := hSs k hk hb0; omega) (Nat.lt_of_lt_of_le hg4 hB7.size) (hf4.below hB7 hg4)
  clear km kn hSs hb0
  refine wpIn_rangeFunc_ownG rfl (by decide) (gf := 54) (lb := #[.pointer (some ⟨W6.heap.size, 0, none⟩), .pointer (some ⟨W6.heap.size + 1, 0, none⟩)]) rfl trivial (enters_of Tryd.func54 (by kernel_rfl) rfl)
    stops (fun h k => h.trans k (fun _ _ h => h)) (fun W l o o' hl ho _ _ => Chg.of_grown (grownBy_putObj' W l o') (fun k hk => by cases hk; exact .inr hl)) (Below.refl _ _) (fun _ => rfl)
    (fun pre W => makesI w W7 v bs C Z pre W)
    (fun _ _ _ => False)
    (makesI_own w W7 v bs C Z hB7.size)
    (fun _ _ _ _ _ hs _ _ => hs)
    ⟨⟨_, k8', ownW_nil _ _⟩, k6', hB7, Nat.le_refl _⟩
    (fun x => { tmps := #[Value.int IntKind.i64 v, Value.slice ab bs.length cb, Value.int IntKind.i64 C, undef, undef, undef, Value.pointer (some ⟨w.heap.size, 0, none⟩), Value.int IntKind.i64 0, Value.pointer (some ⟨w.heap.size + 1, 0, none⟩), v32 (crcOf (chunkB bs C x.val)), Value.int IntKind.i64 v, Value.slice ab bs.length cb, Value.int IntKind.i64 bs.length, Value.int IntKind.i64 C, Value.agg MC, Value.agg MC, Value.bool true, Value.bool false, undef, Value.slice ab bs.length cb, Value.agg SA, Value.pointer (some ⟨w.heap.size + 1, 3, none⟩), Value.agg MH, Value.slice ab bs.length cb, Value.func (Fn.func 54) #[] #[Value.pointer (some ⟨W6.heap.size, 0, none⟩), Value.pointer (some ⟨W6.heap.size + 1, 0, none⟩)], v32 (crcOf (chunkB bs C x.val)), undef, undef, undef, undef, undef, undef, undef], defers := [] }) ?assign ?body ?done ?stop
  case assign =>
    intro l x W K hK
    gi_wp2
    exact hK
  case body =>
    rintro l pre x W ⟨⟨su, k8, hown⟩, k6, hB, hbW⟩ hlt
    have hlen : (sumsF bs C pre).length ≤ 1000000 := by unfold sumsF; rw [List.length_map]; have := hN; have := hn.2.2.2; omega
    have HSF : Hid (sumsF bs C (pre ++ [x]) = sumsF bs C pre ++ [crcOf (chunkB bs C x.val)]) := by show _ = _; unfold sumsF; rw [List.map_append]; rfl
    have sB := hB.size
    have s7 := hB7.size
    dsimp only
    generalize crcOf (chunkB bs C x.val) = CS at *
    obtain ⟨su2, w2, hr2, ho2, hg2, hob⟩ := app_word (W.alloc (.cells #[v32 CS] 49)) W7.heap.size su (sumsF bs C pre) (hown.alloc _) W.heap.size 1 CS (by simp) hlen (by simp; omega)
    have k8a := k8.alloc (.cells #[v32 CS] 49)
    have hne : some (w.heap.size + 1) ≠ su.ownBlock := fun e => by have := (hown.blocks _ e.symm).1; omega
    have hne6 : some w.heap.size ≠ su.ownBlock := fun e => by have := (hown.blocks _ e.symm).1; omega
    have k82 := k8a.grown hg2 hne
    have k62 := (k6.alloc (.cells #[v32 CS] 49)).grown hg2 hne6
    have hko : KeepsOthers (W.alloc (.cells #[v32 CS] 49)) w2 := (hown.alloc _).keeps hg2
    have hB2 : Below w.heap.size w w2 := below_grown (hB.alloc sB _) hg2 (by simp; omega) (fun q hq => by have := (hown.blocks q hq).1; omega)
    have hch : Chg (fun b => b = w.heap.size + 1 ∨ W7.heap.size ≤ b) W w2 := (Chg.of_below ((Below.refl W.heap.size W).alloc (Nat.le_refl _) (.cells #[v32 CS] 49)) (Nat.le_refl _)).trans (S' := fun b => b = w.heap.size + 1 ∨ W7.heap.size ≤ b) (Chg.of_grown hg2 (fun k hk => .inr (hown.blocks k hk).1)) (fun _ _ h => h)
    have hs2 : W.heap.size + 1 ≤ w2.heap.size := by have := hg2.size; simpa using this
    obtain ⟨a1, c1, rfl, _⟩ := hown.wds
    obtain ⟨a2, c2, rfl, _⟩ := ho2.wds
    have c35 : W.cell? ⟨w.heap.size + 1, 35, none⟩ = some _ := k8.cell (manC_35 _ _ (wbytes_len _))
    have c352 : w2.cell? ⟨w.heap.size + 1, 35, none⟩ = some _ := k82.cell (manC_35 _ _ (wbytes_len _))
    have f352 : w2.frozen? ⟨w.heap.size + 1, 35, none⟩ = false := k82.frozen 35
    have lW : w.heap.size + 1 < W.heap.size := k8.lt
    have HF : Hid (∀ z, Blk (w2.setCell ⟨w.heap.size + 1, 35, none⟩ z) (w.heap.size + 1) 27 (manC ⟨v, bs.length, C, shaOf bs, []⟩ z)) := fun z => (k82.set 35 z).of_eq (man_set _ _ _ (wbytes_len _))
    have HO : Hid (∀ z, OwnW (w2.setCell ⟨w.heap.size + 1, 35, none⟩ z) W7.heap.size (.slice a2 (sumsF bs C pre ++ [CS]).length c2) (sumsF bs C pre ++ [CS])) := fun z => ho2.grown (grown_setCellM w2 (w.heap.size + 1) 35 z) (by
      cases hb : (Value.slice a2 (sumsF bs C pre ++ [CS]).length c2).ownBlock with
      | none => exact .inl rfl
      | some k => exact .inr (fun e => by have := (ho2.blocks k hb).1; cases e; omega))
    clear hown ho2 k8 k8a k82 hne hne6 hg2 hob
    generalize (sumsF bs C pre).length = L1 at *
    generalize (sumsF bs C pre ++ [CS]).length = L2 at *
    gi_wp2_with (refine lin_value (fun _ => trivial) rfl (fun c hc => by cases hc) _ _ (exec_app (.tmp 27) (.tmp 29) 25 25 rfl _ _ _ rfl rfl hr2) ?_)
    refine ⟨(((KeepsOthers.alloc _ _).trans hko).trans (KeepsOthers.setCell _ _ _)).from _, hch.setCell _ _ _ (fun _ => .inl rfl), ⟨_, HF.out _, ?_⟩, k62.setOther _ _ (by simp), hB2.setCell (p := ⟨w.heap.size + 1, 35, none⟩) (by simp) _, by simp; omega⟩
    rw [HSF.out]
    exact HO.out _
  case done =>
    rintro D ys W hD hS ⟨⟨su, k8, hown⟩, k6, hB, hbW⟩ hK
    have HU : Hid (sumsF bs C ys = (makeM v bs C).u) := by
      show _ = _
      rw [sumsF_all bs C ys hS]
      show _ = sumsM bs (C : Int).toNat (countM (numsM v bs C)).toNat
      rw [← hN, Int.toNat_natCast, Int.toNat_natCast]
    have hi8 : (Tryd.prog.info? 27).map (·.size) = some (manC ⟨v, bs.length, C, shaOf bs, []⟩ su).size := manC_info _ _ (wbytes_len _)
    have ho8 := manC_one ⟨v, bs.length, C, shaOf bs, []⟩ su hown.wds.one
    have HSZ : Z.size = (manC ⟨v, bs.length, C, shaOf bs, []⟩ su).size := by
      have e1 := hiZ.symm.trans hi8
      exact Option.some.inj e1
    have HSA : Hid ((splice Z.toList 0 (manC ⟨v, bs.length, C, shaOf bs, []⟩ su).toList).toArray = manC ⟨v, bs.length, C, shaOf bs, []⟩ su) := splice_all _ _ HSZ
    have HF8 : Hid (0 + (manC ⟨v, bs.length, C, shaOf bs, []⟩ su).size ≤ Z.size) := by show _ ≤ _; omega
    have HR : Hid (manC (makeM v bs C) su = manC ⟨v, bs.length, C, shaOf bs, []⟩ su) := rfl
    have HKD : Hid (W.heap[D]? = some (.deferred (some []))) := hK
    have hDl : D < W.heap.size := (Array.getElem?_eq_some_iff.1 hK).1
    have s7 := hB7.size
    clear HSZ hS hK
    generalize manC ⟨v, bs.length, C, shaOf bs, []⟩ su = MR at *
    gi_wp2_with (first | (refine lin_value (fun _ => trivial) rfl (fun c hc => by cases hc) (.agg MR) _ (exec_loadM _ rfl (w.heap.size + 1) rfl k8 hi8) ?_) | (refine lin_store (fun _ => trivial) rfl 27 _ _ rfl rfl w.heap.size 0 MR rfl rfl 27 Z MR k6 hi8 HF8.out ho8 HSA.out ?_; intro W9 k9 hg9 hs9))
    have hK9 : W9.heap[D]? = some (.deferred (some [])) := (hg9.block D hDl (by simp; omega)).trans HKD.out
    have hown9 : OwnW W9 W7.heap.size su (sumsF bs C ys) := hown.grown hg9 (by
      cases hb : su.ownBlock with
      | none => exact .inl rfl
      | some k => exact .inr (fun e => by have := (hown.blocks k hb).1; cases e; omega))
    have hB9 : Below w.heap.size w W9 := below_grown hB hg9 hB.size (fun q hq => by cases hq; omega)
    refine ⟨by simp, .inl ⟨_, _, rfl, run_takeDeferred hK9, ?_⟩⟩
    refine ⟨_, results_pairM rfl _ _ w.heap.size 27 MR (0, 0) _ _ rfl rfl ((World.putObj_heap_other (by omega)).trans k9) Tryd.underlying27 rfl hi8, su, ?_, ?_, hB9.trans (belowK_b (w := w) (Nat.le_refl _) W9 D _ _ (by omega) hK9 rfl rfl)⟩
    · rw [HR.out]; rfl
    · rw [← HU.out]
      exact OwnW.mono (ownsRow_putObj hown9 _ hK9 rfl) hB7.size
  case stop =>
    rintro D c pre W _ _ h _
    exact h.elim
end Go.Proofs.YthophonofaaafaaDoor
