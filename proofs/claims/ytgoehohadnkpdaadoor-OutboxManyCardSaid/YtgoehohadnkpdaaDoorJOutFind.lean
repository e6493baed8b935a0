/-
  What is proved here: Box.find finds nothing in two blocks that are all ones.
  Conditions: the box and its flash lie in memory, the power is on, the two blocks are there; the variable fourBits holds the sixteen words.
-/
import Derived.Test.YtgoehohadnkpdaaDoorJOutPlaces
import Derived.Test.YtgoehohadnkpdaaDoorJOutDec
namespace Go.Proofs.YtgoehohadnkpdaaDoor
open Go.RowKit
attribute [local go_sem] Oper.semAt_some

theorem find_results (tmps : Array Value) (W : World) (p : Nat) (u : Value) (hp : tmps.getD 2 undef = .pointer (some ⟨p, 0, none⟩)) (h1 : W.cell? ⟨p, 0, none⟩ = some u) :
    (results Tryd.f26 tmps).run Tryd.prog W = .ok u W := by
  have hp' : tmps[2]?.getD undef = .pointer (some ⟨p, 0, none⟩) := by simpa using hp
  simp [results, Tryd.results26, go_sem, hp', h1]
set_option maxRecDepth 100000 in
set_option maxHeartbeats 8000000 in
theorem findX0 (L : PLay6) (s : FS) (g j : Nat) (w : World) (hK : Blk w g 67 (boxC L j (.slice none 0 0) XS.first)) (hD : PFlash w L s) (hdn : s.down = false) (hj : j + 1 < L.n) (hbl : ∀ wh i, wh ≤ 1 → i < 32 → cellB (blkB s (j + wh)) i = List.replicate 32 255) (hgf : 1 < w.heap.size) (hf : Tab w 1 (fours.map v32)) :
    Calls Tryd.prog 26 #[.pointer (some ⟨g, 0, none⟩)] w fun e w' => e = .returned (.int .i64 0) ∧ Below w.heap.size w w' := by
  have hfn : Fence.wide.fn 37 := trivial
  have hfn2 : Fence.wide.fn 38 := trivial
  have hfn3 : Fence.wide.fn 39 := trivial
  have hfn4 : Fence.wide.fn 40 := trivial
  obtain ⟨Bp, hBp⟩ : ∃ B, B = w.heap.size := ⟨_, rfl⟩
  obtain ⟨Be, hBe⟩ : ∃ B, B = w.heap.size + 1 := ⟨_, rfl⟩
  have hb0 := ((Below.refl w.heap.size w).alloc (Nat.le_refl _) (.cells #[.pointer (some ⟨g, 0, none⟩)] 31)).alloc (by simp) (.cells #[.int .i64 0] 28)
  have k0 : Blk ((w.alloc (.cells #[.pointer (some ⟨g, 0, none⟩)] 31)).alloc (.cells #[.int .i64 0] 28)) Bp 31 #[.pointer (some ⟨g, 0, none⟩)] := by rw [hBp]; exact (Blk.new w _ _).alloc _
  have k1 : Blk ((w.alloc (.cells #[.pointer (some ⟨g, 0, none⟩)] 31)).alloc (.cells #[.int .i64 0] 28)) Be 28 #[.int .i64 0] := Blk.newAt _ _ _ _ (by simp [hBe])
  have hK0 := hK.below hb0 hK.lt
  have hD0 := thePF.after hD hb0
  have hf0 := hf.below hb0 hgf
  have hg0 := Nat.lt_of_lt_of_le hgf hb0.size
  refine (callsIn_wide (n := 6)).1 ?_
  refine callsIn_of_wp_marks Tryd.func26 rfl trivial ?_ rfl
  simp only [Tryd.ntmps26, List.size_toArray, List.length_cons, List.length_nil, Nat.reduceAdd, Nat.reduceSub, Array.replicate_succ, Array.replicate_zero, List.push_toArray, List.append_toArray, List.nil_append, List.cons_append]
  gi_wp2_with fail
  rw [← hBe, ← hBp]
  generalize (w.alloc (.cells #[.pointer (some ⟨g, 0, none⟩)] 31)).alloc (.cells #[.int .i64 0] 28) = W0 at *
  have hBpl : w.heap.size ≤ Bp := by omega
  have hBel : w.heap.size ≤ Be := by omega
  clear hBp hBe hK hD hf
  refine (callsIn_wide.2 (placesF W0)).mono ?_
  rintro e W1 ⟨rfl, hW1⟩
  subst hW1
  gi_wp2_with fail
  refine over_all (by decide) (gf := 56) (lb := #[]) rfl (enters_of Tryd.func56 (by kernel_rfl) rfl)
    (placesX (fun _ => False) W1 (fun _ h => h.elim)) (fun _ => rfl)
    (fun _ V => Chg (fun q => W1.heap.size ≤ q) W1 V)
    (fun pre A B row h2 hgr hr => h2.trans (Chg.of_grown (S := fun q => W1.heap.size ≤ q) hgr (fun k e => (hr k e).1)) (fun _ _ h => h))
    (Chg.refl _ _) (fun x : PlT => .cells #[.int .i64 (x.1.val : Int), .int .i64 (x.2.val : Int)] 61)
    (fun (x : PlT) N => { tmps := #[.pointer (some ⟨g, 0, none⟩), .pointer (some ⟨Bp, 0, none⟩), .pointer (some ⟨Be, 0, none⟩), .pointer (some ⟨N, 0, none⟩), undef, undef, undef, undef, .func (.func 56) #[] #[], .agg #[.int .i64 (x.1.val : Int), .int .i64 (x.2.val : Int)], undef, undef, undef, undef, undef, undef, undef, undef, undef, undef, undef, undef, undef, undef, undef, undef, undef, undef, undef, undef, undef, undef, undef, undef, undef, undef, undef, undef, undef, undef, undef, undef, undef, undef, undef, undef, undef, undef, undef, undef, undef, undef, undef, undef, undef, undef, undef, undef, undef, undef], defers := [] }) ?assign ?body ?done
  case assign =>
    rintro l ⟨⟨X, hX⟩, ⟨I, hI⟩⟩ V K hK
    dsimp only [encP] at hK ⊢
    gi_wp2
    exact hK
  case body =>
    rintro lab pre ⟨⟨X, hX⟩, ⟨I, hI⟩⟩ N V hcv hobj hNW
    dsimp only at hobj ⊢
    have hN : Blk V N 61 #[.int .i64 (X : Int), .int .i64 (I : Int)] := hobj
    have v0 := k0.chg hcv (by have := k0.lt; show ¬ W1.heap.size ≤ Bp; omega)
    have vK := hK0.chg hcv (by have := hK0.lt; show ¬ W1.heap.size ≤ g; omega)
    have vD := hD0.chg hcv (fun q hq e => by have := hD0.lt q hq; omega)
    have vf := hf0.chg hcv hg0 (by show ¬ W1.heap.size ≤ 1; omega)
    have hF : ∀ f, (Fence.wide.inRound lab).fn f := fun _ => trivial
    have HRD : Hid (Calls Tryd.prog 38 #[.pointer (some ⟨g, 0, none⟩), .agg #[.int .i64 (X : Int), .int .i64 (I : Int)]] V fun e w' => ∃ v, e = .returned (.tuple #[v, .int .i64 0]) ∧ Own w' V.heap.size v (cellB (blkB s (j + X)) I) ∧ Below V.heap.size V w') := readX L s g j _ _ X I V vK vD hdn (by omega) (by omega) hI
    rw [hbl X I (by omega) hI] at HRD
    have d0 := v0.cell (j := 0) rfl
    have n0 := hN.cell (j := 0) rfl
    have n1 := hN.cell (j := 1) rfl
    have hgV : 1 < V.heap.size := Nat.lt_of_lt_of_le hg0 hcv.size
    gi_wp2_with fail
    refine (CallsIn.inRound lab (callsIn_wide.2 HRD.out)).mono ?_
    rintro e V1 ⟨v1, rfl, ho1, hb1⟩
    clear HRD
    obtain ⟨a1, c1, hv1⟩ := ho1.seg.shapeD
    subst hv1
    rw [List.length_replicate] at ho1 ⊢
    have hct := ho1.seg.takesD 31 (by decide)
    have l1 : ∀ w, (Instr.slice 35 (.slice a1 32 c1) none (some (.int .i64 31)) none).run Tryd.prog w = .ok (.slice a1 31 c1) w := fun w => slice_toD a1 32 c1 31 hct.2 w
    have hs31 : Seg V1 (.slice a1 31 c1) (List.replicate 31 255) := by have := hct.1; rwa [List.take_replicate, show min 31 32 = 31 from rfl] at this
    have HDE : Hid (Calls Tryd.prog 39 #[.slice a1 31 c1] V1 fun e w' => e = .returned (.tuple #[.agg #[.int .i64 0, .int .i64 0, .int .i64 0, .int .i64 0, .int .i64 0, .int .i64 0, .int .i64 0], .bool false]) ∧ Below V1.heap.size V1 w') := decodeX0 _ _ V1 (List.length_replicate ..) open_ones31 hs31 (Nat.lt_of_lt_of_le hgV hb1.size) (vf.below hb1 hgV)
    clear hct hs31 ho1
    gi_wp2_with fail
    refine (CallsIn.inRound lab (callsIn_wide.2 HDE.out)).mono ?_
    rintro e V2 ⟨rfl, hb2⟩
    clear HDE
    have hb3 : Below V.heap.size V (V2.alloc (.cells #[.int .i64 0, .int .i64 0, .int .i64 0, .int .i64 0, .int .i64 0, .int .i64 0, .int .i64 0] 63)) := (hb1.trans (hb2.mono hb1.size)).alloc (Nat.le_trans hb1.size hb2.size) _
    have hc3 : Chg (fun _ => False) V (V2.alloc (.cells #[.int .i64 0, .int .i64 0, .int .i64 0, .int .i64 0, .int .i64 0, .int .i64 0, .int .i64 0] 63)) := Chg.of_below hb3 (Nat.le_refl _)
    gi_wp2
    exact ⟨keeps_chg9 _ hc3 (fun _ h => h.elim), hcv.trans hc3 (fun _ _ h => h.elim)⟩
  case done =>
    rintro D ys V hDD hys hcv hKD
    have v0 := k0.chg hcv (by have := k0.lt; show ¬ W1.heap.size ≤ Bp; omega)
    have v1 := k1.chg hcv (by have := k1.lt; show ¬ W1.heap.size ≤ Be; omega)
    have vK := hK0.chg hcv (by have := hK0.lt; show ¬ W1.heap.size ≤ g; omega)
    have d0 := v0.cell (j := 0) rfl
    have d2 : V.cell? ⟨g, 2, none⟩ = some (.slice none 0 0) := vK.cell (j := 2) rfl
    have d1 := v1.cell (j := 0) rfl
    have z1 := v1.frozen 0
    have HSO : Hid (Calls Tryd.prog 40 #[.slice none 0 0, .func (.func 41) #[] #[]] V fun e w' => e = .returned (.tuple #[]) ∧ w' = V) := sortX0 none 0 _ V
    have hBe1 : Be < W1.heap.size := k1.lt
    clear hys
    gi_wp2_with fail
    refine (callsIn_wide.2 HSO.out).mono ?_
    rintro e V1 ⟨rfl, hV1⟩
    subst hV1
    clear HSO
    have hDW : W1.heap.size ≤ D := hDD
    have hc1 : Chg (fun q => q = Be) V1 (V1.setCell ⟨Be, 0, none⟩ (.int .i64 0)) := (Chg.refl _ _).setCell Be 0 _ (fun _ => rfl)
    have y1 : Blk (V1.setCell ⟨Be, 0, none⟩ (.int .i64 0)) Be 28 #[.int .i64 0] := v1.set 0 (.int .i64 0)
    have hKD1 : (V1.setCell ⟨Be, 0, none⟩ (.int .i64 0)).heap[D]? = some (.deferred (some [])) := by rw [hc1.2 D (Array.getElem?_eq_some_iff.1 hKD).1 (by omega)]; exact hKD
    gi_wp2
    (try simp only [Exit.noGoto])
    generalize V1.setCell ⟨Be, 0, none⟩ (.int .i64 0) = V2 at *
    have hc2 : Chg (fun q => q = D) V2 (V2.putObj D (.deferred none)) := Chg.of_grown (grownBy_putObj' _ D (.deferred none)) (fun k e => by cases e; rfl)
    refine ⟨by simp, .inl ⟨_, _, rfl, run_takeDeferred hKD1, ?_⟩⟩
    refine ⟨_, find_results _ _ Be (.int .i64 0) rfl ((y1.chg hc2 (by omega)).cell (j := 0) rfl), rfl, ?_⟩
    have hs1 := hcv.size
    have hs2 := hc1.size
    exact hb0.trans ((((hcv.below (B := w.heap.size) (fun q hq => by have := hb0.size; omega) hb0.size).trans (hc1.below (B := w.heap.size) (fun q hq => by omega) (by have := hb0.size; omega))).trans (hc2.below (B := w.heap.size) (fun q hq => by have := hb0.size; omega) (by have := hb0.size; omega))))
end Go.Proofs.YtgoehohadnkpdaaDoor
