/-
  What is proved here: frame.Plain answers the bytes whose Stuff is handed in, and OK; none and ErrForm, if there are none.
  Conditions: at most a million bytes.
-/
import Derived.Test.YtchbfhckocfjhaaDoorFrameSRuns
import Derived.RangeFuncNested
namespace Go.Proofs.YtchbfhckocfjhaaDoor
open Go.RowKit
attribute [local go_sem] Oper.semAt_some

/-- What Plain answers. -/
def plainPost (w : World) (r : Option (List UInt8)) (e : Ending) (w' : World) : Prop := (match r with
  | some out => ∃ v, e = .returned (.tuple #[v, .int .i64 0]) ∧ Own w' w.heap.size v out
  | none => e = .returned (.tuple #[.slice none 0 0, .int .i64 2])) ∧ Below w.heap.size w w'

/-- Another variable's box lies as it lay behind an append that is stored. -/
theorem boxed_apart {W w1 : World} {n₀ P B : Nat} {t : TypeId} {u v v' : Value} {xs : List UInt8} (hu : Boxed W B t u) (ht : t ≠ 5) (hO : Own W n₀ v xs) (hg : W.grownBy w1 v.ownBlock) (hne : B ≠ P) : Boxed (w1.setCell ⟨P, 0, none⟩ v') B t u :=
  (hu.kept hg (hu.not_row ht hO)).other hne v'
theorem Own.setBox {W : World} {n₀ B : Nat} {t : TypeId} {u v : Value} {xs : List UInt8} (hO : Own W n₀ v xs) (hu : Boxed W B t u) (ht : t ≠ 5) (u' : Value) : Own (W.setCell ⟨B, 0, none⟩ u') n₀ v xs :=
  World.ownsRow.kept hO (grownBy_setCell' W B u') (.inr (hu.not_row ht hO).symm)
/-- A slice that is cut behind is still the call's own. -/
theorem Own.shrink {w : World} {base g n c : Nat} {bs : List UInt8} (h : Own w base (.slice (some ⟨g, 0, none⟩) n c) bs) (k : Nat) (hk : k ≤ n) : Own w base (.slice (some ⟨g, 0, none⟩) k c) (bs.take k) := by
  have hn : bs.length = n := by
    rcases h.2 with ⟨h1, _⟩ | ⟨g', cap, cur, h1, _⟩
    · cases h1
    · cases h1; rfl
  rcases h.2 with ⟨h1, _⟩ | ⟨g', cap, cur, h1, h2, h3, h4, h5, h6, h7⟩
  · cases h1
  · cases h1
    refine ⟨by simp, .inr ⟨g, c, cur, ?_, h2, h3, ?_, h5, h6, ?_⟩⟩
    · simp; omega
    · simp; omega
    · have : (bs.take k).length = min k bs.length := by simp
      rw [this, List.map_take, ← h7, List.take_take]
      congr 1
      omega
theorem Own.maxlen {w : World} {base : Nat} {v : Value} {bs : List UInt8} (h : Own w base v bs) : bs.length ≤ 9223372036854775807 := by
  rcases h.2 with ⟨_, h1⟩ | ⟨g', cap, cur, h1, h2, h3, h4, h5, _⟩
  · omega
  · unfold maxLen at h5; omega
theorem plain_results (tmps : Array Value) (W : World) (p q : Nat) (v u : Value) (hp : tmps.getD 2 undef = .pointer (some ⟨p, 0, none⟩)) (hq : tmps.getD 3 undef = .pointer (some ⟨q, 0, none⟩)) (h0 : W.cell? ⟨p, 0, none⟩ = some v) (h1 : W.cell? ⟨q, 0, none⟩ = some u) :
    (results Tryd.f34 tmps).run Tryd.prog W = .ok (.tuple #[v, u]) W := by
  have hp' : tmps[2]?.getD undef = .pointer (some ⟨p, 0, none⟩) := by simpa using hp
  have hq' : tmps[3]?.getD undef = .pointer (some ⟨q, 0, none⟩) := by simpa using hq
  simp [results, Tryd.results34, go_sem, hp', hq', h0, h1]
theorem foldP_ends {w0 : World} (ys : List (SRunT w0)) (h : (foldP ys).2 = true) : 0 < (foldP ys).1.length := by
  obtain ⟨zs, rfl⟩ : ∃ zs, ys = zs.reverse := ⟨ys.reverse, by simp⟩
  cases zs with
  | nil => simp [foldP] at h
  | cons x t =>
    rw [List.reverse_cons, foldP_snoc] at h ⊢
    simp only [decide_eq_true_eq] at h
    rw [if_pos h]; simp; omega

set_option maxRecDepth 100000 in
set_option maxHeartbeats 6000000 in
theorem plain_any (x : Value) (bs : List UInt8) (w : World) (hm : bs.length ≤ 1000000) (hseg : Seg w x bs) :
    Calls Tryd.prog 34 #[x] w (plainPost w (plainOf bs)) := by
  obtain ⟨ao, c, rfl⟩ := hseg.shapeF
  have hfn : Fence.wide.fn 38 := trivial
  obtain ⟨i0, hi, hz0, hz1, hz2⟩ := info_parts Tryd.info5
  have hmk : ∀ W : World, ∃ w', (Instr.makeSlice 22 (.int .i64 0) (.int .i64 (bs.length : Int))).run Tryd.prog W = .ok (.slice (some ⟨W.heap.size, 0, none⟩) 0 bs.length) w' ∧ Own w' W.heap.size (.slice (some ⟨W.heap.size, 0, none⟩) 0 bs.length) [] ∧ W.grownBy w' none := fun W => run_make_own (P := Tryd.prog) W W.heap.size 22 5 i0 (.int .u8 0) 1 Tryd.underlying22 hi hz0 hz1 .i64 .i64 bs.length (by rw [hz2]; omega) (by unfold maxLen; omega) (Nat.le_refl _)
  clear hi hz0 hz1 hz2
  obtain ⟨w1, hmk1, hO0, hg1⟩ := hmk ((w.alloc (.cells #[.slice none 0 0] 22)).alloc (.cells #[.int .i64 0] 24))
  have b0 : Boxed w1 w.heap.size 22 (.slice none 0 0) := ((Boxed.new w 22 (.slice none 0 0)).alloc _).kept hg1 (by simp)
  have b1 : Boxed w1 (w.heap.size + 1) 24 (.int .i64 0) := by
    have := Boxed.new (w.alloc (.cells #[.slice none 0 0] 22)) 24 (.int .i64 0)
    rw [World.size_alloc] at this
    exact this.kept hg1 (by simp)
  have hB1 : Below w.heap.size w w1 := below_grown (((Below.refl _ w).alloc (Nat.le_refl _) _).alloc (by simp) _) hg1 (by simp; omega) (fun q hq => by cases hq)
  have hO1 := hO0.mono (base' := w.heap.size) (by simp; omega)
  have s1 : w.heap.size + 2 ≤ w1.heap.size := by have := hg1.size; simp at this; omega
  generalize ((w.alloc (.cells #[.slice none 0 0] 22)).alloc (.cells #[.int .i64 0] 24)).heap.size = G at hmk1 hO1
  clear hg1 hmk hO0
  generalize hPO : plainOf bs = PO
  have HPO : Hid (plainOf bs = PO) := hPO
  clear hPO
  refine (callsIn_wide (n := 6)).1 ?_
  refine callsIn_of_wp_marks Tryd.func34 rfl trivial ?_ rfl
  simp only [Tryd.ntmps34, List.size_toArray, List.length_cons, List.length_nil, Nat.reduceAdd, Nat.reduceSub, Array.replicate_succ, Array.replicate_zero, List.push_toArray, List.append_toArray, List.nil_append, List.cons_append]
  gi_wp2_with (gi_at_call 38; refine (callsIn_wide.2 (sruns_any _ _ _ _)).mono ?_; rintro e w2 ⟨rfl, rfl⟩)
  have bP := Boxed.new w1 22 (.slice (some ⟨G, 0, none⟩) 0 bs.length)
  have bE := Boxed.new (w1.alloc (.cells #[.slice (some ⟨G, 0, none⟩) 0 bs.length] 22)) 4 (.bool false)
  have bN := Boxed.new ((w1.alloc (.cells #[.slice (some ⟨G, 0, none⟩) 0 bs.length] 22)).alloc (.cells #[.bool false] 4)) 22 (.slice ao bs.length c)
  simp only [World.size_alloc] at bE bN
  have hB0 : Below w.heap.size w (((w1.alloc (.cells #[.slice (some ⟨G, 0, none⟩) 0 bs.length] 22)).alloc (.cells #[.bool false] 4)).alloc (.cells #[.slice ao bs.length c] 22)) := ((hB1.alloc (by omega) _).alloc (by simp; omega) _).alloc (by simp; omega) _
  refine wpIn_rangeFunc_ownG rfl (by decide) (gf := 41) (lb := #[.pointer (some ⟨w1.heap.size + 1 + 1, 0, none⟩)]) rfl trivial (enters_of Tryd.func41 (by kernel_rfl) rfl)
    (sruns_stops 5 (by decide) (w1.heap.size + 1 + 1) w ao c bs hm hseg _ hB0 (by simp) bN.cell) belowK_t (belowK_b (by simp; omega)) (Below.refl _ _) (fun _ => rfl)
    (fun pre W => (∃ v, Boxed W w1.heap.size 22 v ∧ W.ownsRow w.heap.size 5 1 v (foldP pre).1.length ((foldP pre).1.map v8) ∧ True) ∧ Boxed W (w1.heap.size + 1) 4 (.bool (foldP pre).2) ∧ Boxed W w.heap.size 22 (.slice none 0 0) ∧ Boxed W (w.heap.size + 1) 24 (.int .i64 0) ∧ (∀ x ∈ pre, x.1.2 = true) ∧ Below w.heap.size w W)
    (fun c pre W => (c = .ret ∧ ∃ x ∈ pre, x.1.2 = false) ∧ Boxed W w.heap.size 22 (.slice none 0 0) ∧ Boxed W (w.heap.size + 1) 24 (.int .i64 2) ∧ Below w.heap.size w W)
    (OwnFrom.and (_root_.Go.Own.from (holdsRow_own w.heap.size w1.heap.size 22 5 1 (fun pre => (foldP pre).1.length) (fun pre => (foldP pre).1.map v8) (fun _ _ => True)) _) (OwnFrom.and (_root_.Go.Own.from (boxed_own _ _ (fun pre => .bool (foldP pre).2)) _) (OwnFrom.and (_root_.Go.Own.from (boxed_own _ _ (fun _ => .slice none 0 0)) _) (OwnFrom.and (_root_.Go.Own.from (boxed_own _ _ (fun _ => .int .i64 0)) _) (OwnFrom.and (ownFrom_pure _ (fun (pre : List (SRunT w)) => ∀ x ∈ pre, x.1.2 = true)) (ownFrom_below (Nat.le_refl _) (by simp; omega)))))))
    (fun c => OwnFrom.and (ownFrom_pure _ (fun (pre : List (SRunT w)) => c = .ret ∧ ∃ x ∈ pre, x.1.2 = false)) (OwnFrom.and (_root_.Go.Own.from (boxed_own _ _ (fun _ => .slice none 0 0)) _) (OwnFrom.and (_root_.Go.Own.from (boxed_own _ _ (fun _ => .int .i64 2)) _) (ownFrom_below (Nat.le_refl _) (by simp; omega)))))
    ⟨⟨_, (bP.alloc _).alloc _, ((hO1.alloc _).alloc _).alloc _, trivial⟩, bE.alloc _, ((b0.alloc _).alloc _).alloc _, ((b1.alloc _).alloc _).alloc _, by simp, hB0⟩
    (fun x => { tmps := #[.slice ao bs.length c, undef, .pointer (some ⟨w.heap.size, 0, none⟩), .pointer (some ⟨w.heap.size + 1, 0, none⟩), .pointer (some ⟨w1.heap.size, 0, none⟩), .pointer (some ⟨w1.heap.size + 1, 0, none⟩), x.1.1.1, .bool x.1.2, .slice ao bs.length c, .int .i64 bs.length, .slice (some ⟨G, 0, none⟩) 0 bs.length, .slice ao bs.length c, .func (.func 41) #[] #[.pointer (some ⟨w1.heap.size + 1 + 1, 0, none⟩)], x.1.1.1, .bool x.1.2, undef, undef, undef, undef, undef, undef, undef, undef, undef, undef, undef, undef, undef, undef, undef, undef, undef, undef, undef], defers := [] }) ?assign ?body ?done ?stop
  case assign =>
    intro l x W K hK
    gi_wp2
    exact hK
  case body =>
    rintro l pre x W ⟨⟨v, hv, hrow, _⟩, hE, h0, h1, hall, hB⟩ hlt
    have hO : Own W w.heap.size v (foldP pre).1 := hrow
    have hpl := foldP_len pre
    have hsn := foldP_snoc pre x
    obtain ⟨⟨⟨xv, xb⟩, xw⟩, hxs, hxl⟩ := x
    dsimp only at hxs hxl hsn
    obtain ⟨ax, cx, rfl⟩ := hxs.shapeF
    have sB := hB.size
    dsimp only
    cases xw with
    | false =>
      have c0 := h0.cell
      have f0 := h0.frozen
      have h1' := h1.other (B' := w.heap.size) (by omega) (.slice none 0 0)
      have c1 := h1'.cell
      have f1 := h1'.frozen
      gi_wp2
      refine ⟨((KeepsOthers.setCell _ _ _).trans (KeepsOthers.setCell _ _ _)).from _, ⟨rfl, _, List.mem_append.2 (.inr (List.mem_singleton.2 rfl)), rfl⟩, (h0.set _).other (by omega) _, h1'.set _, (hB.setCell (p := ⟨w.heap.size, 0, none⟩) (Nat.le_refl _) _).setCell (p := ⟨w.heap.size + 1, 0, none⟩) (by show _ ≤ w.heap.size + 1; omega) _⟩
    | true =>
      have hcv := hv.cell
      have hxW := hxs.below hB (Nat.le_refl _)
      obtain ⟨RP, hRP⟩ : ∃ RP, RP = (foldP pre).1 ++ xb := ⟨_, rfl⟩
      have HP : Hid ((foldP pre).1 ++ xb = RP) := hRP.symm
      have hlen2 : RP.length ≤ (foldP pre).1.length + xb.length := by rw [hRP]; simp
      rw [← hRP] at hsn
      clear hRP hrow
      have hall' : ∀ x ∈ pre ++ [(⟨((Value.slice ax xb.length cx, xb), true), hxs, hxl⟩ : SRunT w)], x.1.2 = true := by
        intro x hx
        rcases List.mem_append.1 hx with h | h
        · exact hall x h
        · rw [List.mem_singleton.1 h]
      by_cases h254 : xb.length < 254
      · rw [if_pos h254, decide_eq_true h254] at hsn
        have HS : Hid (foldP (pre ++ [(⟨((Value.slice ax xb.length cx, xb), true), hxs, hxl⟩ : SRunT w)]) = (RP ++ [0], true)) := hsn
        have HW : Hid (∀ (W : World) (k : Nat), k = W.heap.size → Row (W.alloc (.cells #[.int .u8 0] 5)) k 0 [0]) := fun W k hk => by subst hk; exact row_one W 0 _
        clear hsn
        have hd : decide ((xb.length : Int) < 254) = true := by simp; omega
        gi_wp2_with (first
          | (gi_at_builtin; refine app_own_in _ rfl (.tmp 17) (.tmp 18) rfl w.heap.size _ (foldP pre).1 rfl hO _ xb rfl hxW (by omega) sB ?_; intro v2 w2 ho2 hg2 _; rw [HP.out] at ho2; obtain ⟨hb2, hb3, ho3, hk3, hB3⟩ := boxed_app hv hO sB (Nat.le_of_lt (Nat.lt_of_lt_of_le (Nat.lt_add_of_pos_right (by decide)) s1)) ho2 hg2; have hE3 := boxed_apart (v' := v2) (P := w1.heap.size) hE (by decide) hO hg2 (by omega); have h03 := boxed_apart (v' := v2) (P := w1.heap.size) h0 (by decide) hO hg2 (by omega); have h13 := boxed_apart (v' := v2) (P := w1.heap.size) h1 (by decide) hO hg2 (by omega); obtain ⟨a2, c2, rfl⟩ := ho2.seg.shapeF; have hc2 := hb2.cell; have hf2 := hb2.frozen; have hcE3 := hE3.cell; have hfE3 := hE3.frozen; have hE4 := hE3.set (.bool true); have hcE4 := hE4.cell; have hb4 := hb3.other (B' := w1.heap.size + 1) (by omega) (.bool true); have hc4 := hb4.cell; have hf4 := hb4.frozen; have ho4 := ho3.setBox hE3 (by decide) (.bool true); have h04 := h03.other (B' := w1.heap.size + 1) (by omega) (.bool true); have h14 := h13.other (B' := w1.heap.size + 1) (by omega) (.bool true); have hB4 := (hB.trans hB3).setCell (p := ⟨w1.heap.size + 1, 0, none⟩) (by show _ ≤ w1.heap.size + 1; omega) (.bool true); have s4 := hB4.size)
          | (gi_at_builtin; refine app_own_in _ rfl (.tmp 24) (.tmp 25) rfl w.heap.size _ RP rfl (by exact ho4.alloc _) _ [0] rfl (by exact Seg.of_row (HW.out _ w2.heap.size (by simp)) rfl (Nat.le_refl _) (by simp)) (by simp; omega) (by rw [World.size_alloc]; omega) ?_; intro v5 w5 ho5 hg5 _; obtain ⟨hb5, hb6, ho6, hk6, hB6⟩ := boxed_app (hb4.alloc _) (ho4.alloc _) (by rw [World.size_alloc]; omega) (by omega) ho5 hg5; have hE6 := boxed_apart (v' := v5) (P := w1.heap.size) (hE4.alloc _) (by decide) (ho4.alloc _) hg5 (by omega); have h06 := boxed_apart (v' := v5) (P := w1.heap.size) (h04.alloc _) (by decide) (ho4.alloc _) hg5 (by omega); have h16 := boxed_apart (v' := v5) (P := w1.heap.size) (h14.alloc _) (by decide) (ho4.alloc _) hg5 (by omega); obtain ⟨a5, c5, rfl⟩ := ho5.seg.shapeF; have hc5 := hb5.cell; have hf5 := hb5.frozen))
        simp only [List.length_append, List.length_cons, List.length_nil, Nat.zero_add] at hb6 ho6 hk6 hB6 hE6 h06 h16
        refine ⟨(((hk3.trans (KeepsOthers.setCell _ _ _)).trans (KeepsOthers.alloc _ _)).trans hk6).from _, ((hB3.setCell (p := ⟨w1.heap.size + 1, 0, none⟩) (by show _ ≤ w1.heap.size + 1; omega) _).alloc s4 _).trans hB6, ⟨_, hb6, ?_, trivial⟩, ?_, h06, h16, hall', (hB4.alloc s4 _).trans hB6⟩
        · rw [HS.out]; exact ho6
        · rw [HS.out]; exact hE6
      · rw [if_neg h254, decide_eq_false h254, List.append_nil] at hsn
        have HS : Hid (foldP (pre ++ [(⟨((Value.slice ax xb.length cx, xb), true), hxs, hxl⟩ : SRunT w)]) = (RP, false)) := hsn
        clear hsn
        have hd : decide ((xb.length : Int) < 254) = false := by simp; omega
        gi_wp2_with (gi_at_builtin; refine app_own_in _ rfl (.tmp 17) (.tmp 18) rfl w.heap.size _ (foldP pre).1 rfl hO _ xb rfl hxW (by omega) sB ?_; intro v2 w2 ho2 hg2 _; rw [HP.out] at ho2; obtain ⟨hb2, hb3, ho3, hk3, hB3⟩ := boxed_app hv hO sB (Nat.le_of_lt (Nat.lt_of_lt_of_le (Nat.lt_add_of_pos_right (by decide)) s1)) ho2 hg2; have hE3 := boxed_apart (v' := v2) (P := w1.heap.size) hE (by decide) hO hg2 (by omega); have h03 := boxed_apart (v' := v2) (P := w1.heap.size) h0 (by decide) hO hg2 (by omega); have h13 := boxed_apart (v' := v2) (P := w1.heap.size) h1 (by decide) hO hg2 (by omega); obtain ⟨a2, c2, rfl⟩ := ho2.seg.shapeF; have hc2 := hb2.cell; have hf2 := hb2.frozen; have hcE3 := hE3.cell; have hfE3 := hE3.frozen; have hE4 := hE3.set (.bool false); have hcE4 := hE4.cell; have hb4 := hb3.other (B' := w1.heap.size + 1) (by omega) (.bool false); have ho4 := ho3.setBox hE3 (by decide) (.bool false); have h04 := h03.other (B' := w1.heap.size + 1) (by omega) (.bool false); have h14 := h13.other (B' := w1.heap.size + 1) (by omega) (.bool false); have hB4 := (hB.trans hB3).setCell (p := ⟨w1.heap.size + 1, 0, none⟩) (by show _ ≤ w1.heap.size + 1; omega) (.bool false); have s4 := hB4.size)
        refine ⟨(hk3.trans (KeepsOthers.setCell _ _ _)).from _, hB3.setCell (p := ⟨w1.heap.size + 1, 0, none⟩) (by show _ ≤ w1.heap.size + 1; omega) _, ⟨_, hb4, ?_, trivial⟩, ?_, h04, h14, hall', hB4⟩
        · rw [HS.out]; exact ho4
        · rw [HS.out]; exact hE4
  case done =>
    rintro D ys W hD hS ⟨⟨v, hv, hrow, _⟩, hE, h0, h1, hall, hB⟩ hK
    have hO : Own W w.heap.size v (foldP ys).1 := hrow
    have hmx := hO.maxlen
    have hfin := hS hall
    have hne := foldP_ends ys
    have hpl := foldP_len ys
    rw [HPO.out] at hfin
    clear hS hrow
    generalize (foldP ys).1 = acc at *
    have hcE := hE.cell
    have c0 := h0.cell
    have f0 := h0.frozen
    have c1 := h1.cell
    have f1 := h1.frozen
    have sB := hB.size
    simp only [World.size_alloc] at hD
    cases he : (foldP ys).2 with
    | true =>
      rw [he] at hfin hne hcE
      have hpos := hne rfl
      rw [plainA] at hfin
      simp only [if_true] at hfin
      subst hfin
      obtain ⟨g, cap, rfl, hgb, hgl, hlc, _⟩ := hO.form hpos
      have hcv := hv.cell
      have l1 : ∀ w, (Instr.slice 22 (.slice (some ⟨g, 0, none⟩) acc.length cap) none (some (.int .i64 ((acc.length : Int) - 1))) none).run Tryd.prog w = .ok (.slice (some ⟨g, 0, none⟩) (acc.length - 1) cap) w := fun w => by
        have := slice_toF (some ⟨g, 0, none⟩) acc.length cap (acc.length - 1) (by omega) w
        rw [show ((acc.length - 1 : Nat) : Int) = (acc.length : Int) - 1 by omega] at this
        exact this
      have hOs := hO.shrink (acc.length - 1) (by omega)
      rw [← List.dropLast_eq_take] at hOs
      have h1' := h1.other (B' := w.heap.size) (by omega) (.slice (some ⟨g, 0, none⟩) (acc.length - 1) cap)
      have c1' := h1'.cell
      have f1' := h1'.frozen
      clear hE hne
      gi_wp2
      have hK' := ((KeepsOthers.setCell W ⟨w.heap.size, 0, none⟩ (.slice (some ⟨g, 0, none⟩) (acc.length - 1) cap)).trans (KeepsOthers.setCell _ ⟨w.heap.size + 1, 0, none⟩ (.int .i64 0))).same D _ hK rfl
      refine ⟨by simp, .inl ⟨_, _, rfl, run_takeDeferred hK', ?_⟩⟩
      have hk5 := cell_kept ((h0.set (.slice (some ⟨g, 0, none⟩) (acc.length - 1) cap)).other (B' := w.heap.size + 1) (by omega) (.int .i64 0)).cell (grownBy_putObj' _ D (.deferred none)) (fun r e => by cases e; exact ⟨_, hK', rfl⟩)
      have hb5 := cell_kept (h1'.set (.int .i64 0)).cell (grownBy_putObj' _ D (.deferred none)) (fun r e => by cases e; exact ⟨_, hK', rfl⟩)
      have hB5 := ((hB.setCell (p := ⟨w.heap.size, 0, none⟩) (Nat.le_refl _) (.slice (some ⟨g, 0, none⟩) (acc.length - 1) cap)).setCell (p := ⟨w.heap.size + 1, 0, none⟩) (by show _ ≤ w.heap.size + 1; omega) (.int .i64 0))
      refine ⟨.tuple #[.slice (some ⟨g, 0, none⟩) (acc.length - 1) cap, .int .i64 0], ?_, ⟨_, rfl, ?_⟩, hB5.trans (belowK_b (w := w) (Nat.le_refl _) _ D _ _ (by omega) hK' rfl rfl)⟩
      · exact plain_results _ _ _ _ _ _ rfl rfl hk5 hb5
      · exact ownsRow_putObj ((hOs.setBox h0 (by decide) _).setBox h1' (by decide) _) _ hK' rfl
    | false =>
      rw [he] at hfin hcE
      rw [plainA] at hfin
      simp only [Bool.false_eq_true, if_false] at hfin
      subst hfin
      have h1' := h1.other (B' := w.heap.size) (by omega) (.slice none 0 0)
      have c1' := h1'.cell
      have f1' := h1'.frozen
      clear hE hne
      gi_wp2
      have hK' := ((KeepsOthers.setCell W ⟨w.heap.size, 0, none⟩ (.slice none 0 0)).trans (KeepsOthers.setCell _ ⟨w.heap.size + 1, 0, none⟩ (.int .i64 2))).same D _ hK rfl
      refine ⟨by simp, .inl ⟨_, _, rfl, run_takeDeferred hK', ?_⟩⟩
      have hk5 := cell_kept ((h0.set (.slice none 0 0)).other (B' := w.heap.size + 1) (by omega) (.int .i64 2)).cell (grownBy_putObj' _ D (.deferred none)) (fun r e => by cases e; exact ⟨_, hK', rfl⟩)
      have hb5 := cell_kept (h1'.set (.int .i64 2)).cell (grownBy_putObj' _ D (.deferred none)) (fun r e => by cases e; exact ⟨_, hK', rfl⟩)
      have hB5 := ((hB.setCell (p := ⟨w.heap.size, 0, none⟩) (Nat.le_refl _) (.slice none 0 0)).setCell (p := ⟨w.heap.size + 1, 0, none⟩) (by show _ ≤ w.heap.size + 1; omega) (.int .i64 2))
      refine ⟨.tuple #[.slice none 0 0, .int .i64 2], ?_, rfl, hB5.trans (belowK_b (w := w) (Nat.le_refl _) _ D _ _ (by omega) hK' rfl rfl)⟩
      exact plain_results _ _ _ _ _ _ rfl rfl hk5 hb5
  case stop =>
    rintro D c pre W hD hSp ⟨⟨rfl, hex⟩, h0, h1, hB⟩ hK
    gi_wp2
    refine ⟨by simp, .inl ⟨_, _, rfl, run_takeDeferred hK, ?_⟩⟩
    have hk5 := cell_kept h0.cell (grownBy_putObj' _ D (.deferred none)) (fun r e => by cases e; exact ⟨_, hK, rfl⟩)
    have hb5 := cell_kept h1.cell (grownBy_putObj' _ D (.deferred none)) (fun r e => by cases e; exact ⟨_, hK, rfl⟩)
    have hn := hSp hex
    rw [HPO.out] at hn
    subst hn
    refine ⟨.tuple #[.slice none 0 0, .int .i64 2], ?_, rfl, hB.trans (belowK_b (w := w) (Nat.le_refl _) W D _ _ (by simp at hD; omega) hK rfl rfl)⟩
    exact plain_results _ _ _ _ _ _ rfl rfl hk5 hb5
end Go.Proofs.YtchbfhckocfjhaaDoor
