/-
  What is proved here: frame.Stuff answers the bytes without noughts.
  Conditions: at most a million bytes.
-/
import Derived.Test.YtchbfhckocfjhaaDoorFrameRuns
namespace Go.Proofs.YtchbfhckocfjhaaDoor
open Go.RowKit
attribute [local go_sem] Oper.semAt_some

/-- What a variable's box holds behind an append to what it held. -/
theorem boxed_app {W w1 : World} {n₀ B : Nat} {v v' : Value} {xs ys : List UInt8} (hv : Boxed W B 22 v) (hO : Own W n₀ v xs) (hn₀ : n₀ ≤ W.heap.size) (hB : n₀ ≤ B) (hO' : Own w1 n₀ v' ys) (hg : W.grownBy w1 v.ownBlock) :
    Boxed w1 B 22 v ∧ Boxed (w1.setCell ⟨B, 0, none⟩ v') B 22 v' ∧ Own (w1.setCell ⟨B, 0, none⟩ v') n₀ v' ys ∧ KeepsOthers W (w1.setCell ⟨B, 0, none⟩ v') ∧ Below n₀ W (w1.setCell ⟨B, 0, none⟩ v') := by
  have hv1 : Boxed w1 B 22 v := hv.kept hg (hv.not_row (by decide) hO)
  exact ⟨hv1, hv1.set v', World.ownsRow.kept hO' (grownBy_setCell' w1 B v') (.inr (hv1.not_row (by decide) hO').symm), (hO.keeps hg).trans (KeepsOthers.setCell _ _ _), (hO.belows hg hn₀).setCell (p := ⟨B, 0, none⟩) hB v'⟩
theorem byte_form (n : Nat) (h : n ≤ 254) : Value.int .u8 ((n : Int) + 1) = v8 (UInt8.ofNat (n + 1)) := by
  show _ = Value.int .u8 (((UInt8.ofNat (n + 1)).toNat : Nat) : Int)
  rw [ofNat_run n h]; simp

set_option maxRecDepth 100000 in
set_option maxHeartbeats 2000000 in
theorem stuff_any (x : Value) (bs : List UInt8) (w : World) (hm : bs.length ≤ 1000000) (hseg : Seg w x bs) :
    Calls Tryd.prog 15 #[x] w fun e w' => ∃ v, e = .returned v ∧ Own w' w.heap.size v (stuff bs) ∧ Below w.heap.size w w' := by
  obtain ⟨ao, c, rfl⟩ := hseg.shapeF
  have hfn : Fence.wide.fn 23 := trivial
  obtain ⟨C, hC⟩ : ∃ C, C = bs.length + bs.length / 254 + 1 := ⟨_, rfl⟩
  obtain ⟨i0, hi, hz0, hz1, hz2⟩ := info_parts Tryd.info5
  obtain ⟨w1, hmk, ho1, hg1⟩ := run_make_own (P := Tryd.prog) w w.heap.size 22 5 i0 (.int .u8 0) 1 Tryd.underlying22 hi hz0 hz1 .i64 .i64 C (by rw [hz2]; omega) (by unfold maxLen; omega) (Nat.le_refl _)
  rw [show (C : Int) = (bs.length : Int) + (bs.length : Int) / 254 + 1 by omega] at hmk
  have hO1 : Own w1 w.heap.size (.slice (some ⟨w.heap.size, 0, none⟩) 0 C) [] := ho1
  have hB1 : Below w.heap.size w w1 := below_grown (Below.refl _ _) hg1 (Nat.le_refl _) (fun q hq => by cases hq)
  have s1 := hB1.size
  clear hC ho1 hg1 hi hz0 hz1 hz2
  refine (callsIn_wide (n := 6)).1 ?_
  refine callsIn_of_wp_marks Tryd.func15 rfl trivial ?_ rfl
  simp only [Tryd.ntmps15, List.size_toArray, List.length_cons, List.length_nil, Nat.reduceAdd, Nat.reduceSub, Array.replicate_succ, Array.replicate_zero, List.push_toArray, List.append_toArray, List.nil_append, List.cons_append]
  gi_wp2_with (gi_at_call 23; refine (callsIn_wide.2 (runs_any _ _ _ _)).mono ?_; rintro e w2 ⟨rfl, rfl⟩)
  have bO := Boxed.new w1 22 (.slice (some ⟨w.heap.size, 0, none⟩) 0 C)
  have bN := Boxed.new (w1.alloc (.cells #[.slice (some ⟨w.heap.size, 0, none⟩) 0 C] 22)) 22 (.slice ao bs.length c)
  rw [World.size_alloc] at bN
  have hB0 : Below w.heap.size w ((w1.alloc (.cells #[.slice (some ⟨w.heap.size, 0, none⟩) 0 C] 22)).alloc (.cells #[.slice ao bs.length c] 22)) := (hB1.alloc s1 _).alloc (by simp; omega) _
  refine wpIn_rangeFunc_ownG rfl (by decide) (gf := 29) (lb := #[.pointer (some ⟨w1.heap.size + 1, 0, none⟩)]) rfl trivial (enters_of Tryd.func29 (by kernel_rfl) rfl)
    (runs_stops 5 (by decide) (w1.heap.size + 1) w ao c bs hseg _ hB0 (by simp) bN.cell) belowK_t (belowK_b (by simp; omega)) (Below.refl _ _) (fun _ => rfl)
    (fun pre W => (∃ v, Boxed W w1.heap.size 22 v ∧ W.ownsRow w.heap.size 5 1 v (runsPut pre).length ((runsPut pre).map v8) ∧ True) ∧ Below w.heap.size w W)
    (fun _ _ _ => False)
    (OwnFrom.and (_root_.Go.Own.from (holdsRow_own w.heap.size w1.heap.size 22 5 1 (fun pre => (runsPut pre).length) (fun pre => (runsPut pre).map v8) (fun _ _ => True)) _) (ownFrom_below (Nat.le_refl _) (by simp; omega)))
    (fun _ _ _ _ _ hs _ _ => hs)
    ⟨⟨_, bO.alloc _, (hO1.alloc _).alloc _, trivial⟩, hB0⟩
    (fun x => { tmps := #[.slice ao bs.length c, undef, .slice none 0 0, .pointer (some ⟨w1.heap.size, 0, none⟩), x.1.1, .slice ao bs.length c, .int .i64 bs.length, .slice ao bs.length c, .int .i64 bs.length, .int .i64 ((bs.length : Int) / 254), .int .i64 ((bs.length : Int) + (bs.length : Int) / 254), .int .i64 ((bs.length : Int) + (bs.length : Int) / 254 + 1), .slice (some ⟨w.heap.size, 0, none⟩) 0 C, .slice ao bs.length c, .func (.func 29) #[] #[.pointer (some ⟨w1.heap.size + 1, 0, none⟩)], x.1.1, undef, undef, undef, undef, undef, undef, undef, undef, undef, undef, undef], defers := [] }) ?assign ?body ?done ?stop
  case assign =>
    intro l x W K hK
    gi_wp2
    exact hK
  case body =>
    rintro l pre x W ⟨⟨v, hv, hrow, _⟩, hB⟩ hlt
    have hO : Own W w.heap.size v (runsPut pre) := hrow
    have hpl := runsPut_len pre
    have hsn := runsPut_snoc pre x
    obtain ⟨⟨xv, xb⟩, hxs, hxl⟩ := x
    dsimp only at hxs hxl hsn
    obtain ⟨ax, cx, rfl⟩ := hxs.shapeF
    have hc := hv.cell
    have sB := hB.size
    dsimp only
    have HW : Hid (∀ W : World, Row (W.alloc (.cells #[.int .u8 ((xb.length : Int) + 1)] 5)) W.heap.size 0 [UInt8.ofNat (xb.length + 1)]) := fun W => by rw [byte_form _ hxl]; exact row_one W _ _
    have hlen2 : (runsPut pre ++ [UInt8.ofNat (xb.length + 1)]).length ≤ (runsPut pre).length + 1 := by simp
    have HS : Hid (runsPut (pre ++ [⟨(Value.slice ax xb.length cx, xb), hxs, hxl⟩]) = runsPut pre ++ [UInt8.ofNat (xb.length + 1)] ++ xb) := by show _ = _; rw [hsn]; simp
    clear hsn hrow
    obtain ⟨RP, hRP⟩ : ∃ RP, RP = runsPut pre ++ [UInt8.ofNat (xb.length + 1)] := ⟨_, rfl⟩
    have HP : Hid (runsPut pre ++ [UInt8.ofNat (xb.length + 1)] = RP) := hRP.symm
    rw [← hRP] at hlen2 HS
    clear hRP
    gi_wp2_with (first
      | (gi_at_builtin; refine app_own_in _ rfl (.tmp 16) (.tmp 21) rfl w.heap.size _ (runsPut pre) rfl (by exact hO.alloc _) _ [UInt8.ofNat (xb.length + 1)] rfl (by exact Seg.of_row (HW.out W) rfl (Nat.le_refl _) (by simp)) (by simp; omega) (by simp; omega) ?_; intro v2 w2 ho2 hg2 _; rw [HP.out] at ho2; obtain ⟨hb2, hb3, ho3, hk3, hB3⟩ := boxed_app (hv.alloc _) (hO.alloc _) (by simp; omega) s1 ho2 hg2; obtain ⟨a2, c2, rfl⟩ := ho2.seg.shapeF; have hc2 := hb2.cell; have hf2 := hb2.frozen; have hc3 := hb3.cell; have hf3 := hb3.frozen; have hB4 := (hB.alloc sB _).trans hB3; have s4 := hB4.size; have hs3 := hxs.below hB4 (Nat.le_refl _))
      | (gi_at_builtin; refine app_own_in _ rfl (.tmp 23) (.tmp 24) rfl w.heap.size _ RP rfl ho3 _ xb rfl hs3 (by omega) s4 ?_; intro v5 w5 ho5 hg5 _; obtain ⟨hb5, hb6, ho6, hk6, hB6⟩ := boxed_app hb3 ho3 s4 s1 ho5 hg5; obtain ⟨a5, c5, rfl⟩ := ho5.seg.shapeF; have hc5 := hb5.cell; have hf5 := hb5.frozen))
    simp only [List.length_append] at hb6 ho6 hk6 hB6
    refine ⟨(((KeepsOthers.alloc _ _).trans hk3).trans hk6).from _, (((Below.refl _ W).alloc sB _).trans hB3).trans hB6, ⟨_, hb6, ?_, trivial⟩, hB4.trans hB6⟩
    rw [HS.out]; exact ho6
  case done =>
    rintro D ys W hD hS ⟨⟨v, hv, hrow, _⟩, hB⟩ hK
    have hc := hv.cell
    gi_wp2
    refine ⟨by simp, .inl ⟨_, _, rfl, run_takeDeferred hK, ?_⟩⟩
    refine ⟨_, results_tmp rfl _ _ _, v, rfl, ?_, hB.trans (belowK_b (w := w) (Nat.le_refl _) W D _ _ (by simp at hD; omega) hK rfl rfl)⟩
    rw [← hS]
    exact ownsRow_putObj hrow _ hK rfl
  case stop =>
    rintro D c pre W _ _ h _
    exact h.elim
end Go.Proofs.YtchbfhckocfjhaaDoor
