/-
  What is proved here: devices cut into waves, as slices of the call's own.
  Conditions: those that each fact names.
-/
import Derived.Test.YtnagdgkkkkpekabDoorWaveArgs
import Derived.Test.YtnagdgkkkkpekabDoorSegKit
namespace Go.Proofs.YtnagdgkkkkpekabDoor
open Go.RowKit

theorem elem_intsW : Tryd.prog.elem 22 = 3 := by kernel_rfl
theorem size_intW (w : World) : (sizeOf 3).run Tryd.prog w = .ok 1 w := by kernel_rfl
theorem slice_midI (ao : Option Addr) (len c lo hi : Nat) (h : lo ≤ hi) (hc : hi ≤ c) (w : World) : (Instr.slice 22 (.slice ao len c) (some (.int .i64 (lo : Int))) (some (.int .i64 (hi : Int))) none).run Tryd.prog w = .ok (.slice (restD ao c lo) (hi - lo) (c - lo)) w := by
  rw [run_slice_lh w 22 ao len c (by rw [elem_intsW]; exact Tryd.underlying22) .i64 .i64 lo hi (by omega) (by omega) (by omega), elem_intsW, size_intW]
  simp only [Result.andThen_ok, sliced, Int.toNat_natCast, restD]
/-- A part of a slice of ints. -/
theorem IntsI.mid {w : World} {ao : Option Addr} {len c : Nat} {zs : List Int} (h : IntsI w (.slice ao len c) zs) (lo n : Nat) (hn : lo + n ≤ len) : IntsI w (.slice (restD ao c lo) n (c - lo)) ((zs.drop lo).take n) := by
  obtain ⟨ao', c', e, h2, h3, h3', h4⟩ := h
  cases e
  have hl : ((zs.drop lo).take n).length = n := by simp; omega
  refine ⟨restD ao c lo, c - lo, by rw [hl], by rw [hl]; omega, by rw [hl]; omega, fun e => ?_, fun j z hz => ?_⟩
  · unfold restD at e
    split at e
    · omega
    · rw [Option.map_eq_none_iff] at e
      have := h3' e
      omega
  · have hj : j < n := by have := (List.getElem?_eq_some_iff.1 hz).1; omega
    rw [List.getElem?_take_of_lt hj, List.getElem?_drop] at hz
    obtain ⟨b, off, rfl, hb, hc⟩ := h4 _ z hz
    have hne : c ≠ lo := by omega
    refine ⟨b, off + lo, ?_, hb, ?_⟩
    · unfold restD
      rw [if_neg hne, Option.map_some, Addr.add_mid, Nat.mul_one]
    · rw [show off + lo + j = off + (lo + j) by omega]; exact hc
/-- Rows of ints, all of the call's own. -/
def PlanZ (w : World) (base : Nat) (v : Value) (rs : List (List Int)) : Prop := ∃ vs : List Value, w.ownsRow base 22 1 v rs.length vs ∧ ∀ (i : Nat) u r, vs[i]? = some u → rs[i]? = some r → OwnZ w base u r
theorem PlanZ.nil (w : World) (base : Nat) : PlanZ w base (.slice none 0 0) [] := ⟨[], ⟨rfl, .inl ⟨rfl, rfl⟩⟩, fun i u r h => by simp at h⟩
theorem PlanZ.shape {w : World} {base : Nat} {v : Value} {rs : List (List Int)} (h : PlanZ w base v rs) : ∃ ao c, v = .slice ao rs.length c := by
  obtain ⟨vs, h1, _⟩ := h
  rcases h1.2 with ⟨e, e2⟩ | ⟨g, cap, cur, e, _⟩
  · rw [e2]; exact ⟨_, _, e⟩
  · exact ⟨_, _, e⟩
theorem PlanZ.blocks {w : World} {base : Nat} {v : Value} {rs : List (List Int)} (h : PlanZ w base v rs) : ∀ k, v.ownBlock = some k → base ≤ k ∧ k < w.heap.size := by
  obtain ⟨vs, h1, _⟩ := h
  exact World.ownsRow.lt h1
theorem PlanZ.mono {w : World} {base base' : Nat} {v : Value} {rs : List (List Int)} (h : PlanZ w base v rs) (hb : base' ≤ base) : PlanZ w base' v rs := by
  obtain ⟨vs, h1, h2⟩ := h
  refine ⟨vs, ⟨h1.1, ?_⟩, fun i u r hu hr => (h2 i u r hu hr).mono hb⟩
  rcases h1.2 with e | ⟨g, cap, cur, e, e1, e2⟩
  · exact .inl e
  · exact .inr ⟨g, cap, cur, e, Nat.le_trans hb e1, e2⟩
theorem ownsRow_below {w w' : World} {B base : Nat} {t : TypeId} {v : Value} {n : Nat} {xs : List Value} (h : w.ownsRow base t 1 v n xs) (hb : Below B w w') (hB : w.heap.size ≤ B) : w'.ownsRow base t 1 v n xs := by
  refine ⟨h.1, ?_⟩
  rcases h.2 with h2 | ⟨g, cap, cur, h1, h2, h3, h4⟩
  · exact .inl h2
  · exact .inr ⟨g, cap, cur, h1, h2, by rw [hb.block g (Nat.lt_of_lt_of_le (Array.getElem?_eq_some_iff.1 h3).1 hB)]; exact h3, h4⟩
theorem PlanZ.below {w w' : World} {base B : Nat} {v : Value} {rs : List (List Int)} (h : PlanZ w base v rs) (hb : Below B w w') (hB : w.heap.size ≤ B) : PlanZ w' base v rs := by
  obtain ⟨vs, h1, h2⟩ := h
  exact ⟨vs, ownsRow_below h1 hb hB, fun i u r hu hr => (h2 i u r hu hr).below hb hB⟩
/-- Where one of the rows lies. -/
theorem PlanZ.at {w : World} {base : Nat} {v : Value} {rs : List (List Int)} (h : PlanZ w base v rs) {k : Nat} {r : List Int} (hk : rs[k]? = some r) : ∃ b c a cc, v = .slice (some ⟨b, 0, none⟩) rs.length c ∧ b < w.heap.size ∧ w.cell? ⟨b, k, none⟩ = some (.slice a r.length cc) ∧ OwnZ w base (.slice a r.length cc) r := by
  obtain ⟨vs, h1, h2⟩ := h
  have hl : k < rs.length := (List.getElem?_eq_some_iff.1 hk).1
  have hvl : vs.length = rs.length := by have := h1.1; omega
  have hu := List.getElem?_eq_getElem (l := vs) (i := k) (by omega)
  have ho := h2 k _ r hu hk
  obtain ⟨a, cc, e⟩ := ho.shape
  rcases h1.2 with ⟨e1, e2⟩ | ⟨g, cap, cur, e1, e2, e3, _⟩
  · omega
  · refine ⟨g, cap, a, cc, e1, (Array.getElem?_eq_some_iff.1 e3).1, ?_, by rw [← e]; exact ho⟩
    have := World.ownsRow.cells h1 (g := g) (by rw [e1]; rfl) k _ hu
    rw [Addr.add_mid, Nat.zero_add] at this
    rw [this, e]
theorem index_intss (b len c I : Nat) (w : World) (h : I < len) : (Instr.indexAt 24 (.slice (some ⟨b, 0, none⟩) len c) (.int .i64 (I : Int))).run Tryd.prog w = .ok (.pointer (some ⟨b, I, none⟩)) w := by
  have hs : ∀ w, (sizeOf 22).run Tryd.prog w = .ok 1 w := fun w => by kernel_rfl
  have hi : (0 : Int) ≤ (I : Int) ∧ (I : Int) < (len : Int) := by omega
  simp [Instr.indexAt, asIntOf, run_underlying Tryd.underlying24, hs, hi, Addr.add_mid]
  intro h2
  omega
theorem info_intsW : (Tryd.prog.info? 22).map (fun i => (i.zero, i.size, i.bytes)) = some (some (.slice none 0 0), 1, 24) := by kernel_rfl
theorem parts_intsW : ∃ i, Tryd.prog.info? 22 = some i ∧ i.zero = some (.slice none 0 0) ∧ i.size = 1 ∧ i.bytes = 24 := info_parts info_intsW
theorem ne_intW : (22 : TypeId) ≠ 3 := by decide
/-- append of one row more. -/
theorem app_row (w : World) {ops : Array Oper} {rest : List Oper} {o : Oper} {a : Act} {Q : Exit → Act → World → Prop} (hgd : o.guard = none) (s x : Operand)
    (ho : o.op = .call { callee := .builtin .append, args := #[s, x], argTypes := #[24, 24] })
    (base : Nat) (v : Value) (rs : List (List Int)) (hs : a.eval s = v) (hown : PlanZ w base v rs) (ad : Addr) (u : Value) (r : List Int) (hx : a.eval x = .slice (some ad) 1 1) (hc : w.cell? ad = some u) (hu : OwnZ w base u r)
    (hlen : rs.length ≤ 1000000) (hbase : base ≤ w.heap.size)
    (hK : ∀ v' w', PlanZ w' base v' (rs ++ [r]) → w.grownBy w' v.ownBlock → (v'.ownBlock = v.ownBlock ∨ v'.ownBlock = some w.heap.size) → wpList Tryd.prog ops Q rest (a.put o.dst v') w') :
    wpList Tryd.prog ops Q (o :: rest) a w := by
  obtain ⟨i0, hi, hz0, hz1, hz2⟩ := parts_intsW
  obtain ⟨vs, h1, h2⟩ := hown
  have hvl : vs.length = rs.length := by have := h1.1; omega
  have hone : u.oneCell' = true := by obtain ⟨ao, c, rfl⟩ := hu.shape; rfl
  refine wpList_append_own_at w hgd s x 24 ho base 22 i0 (.slice none 0 0) 1 24 Tryd.underlying24 hi hz0 hz1 hz2 rfl (by decide) v rs.length vs hs h1 ad 1 1 [u] hx rfl (fun j z hz => ?_) (fun z hz => by rw [List.mem_singleton.1 hz]; exact hone) (by unfold maxLen; omega) (by omega) hbase ?_
  · cases j with
    | zero => obtain ⟨b, off, sp⟩ := ad; simp at hz; subst hz; simpa [Addr.add] using hc
    | succ j => simp at hz
  · intro v' w' k1 k2 _ k4
    have hch : Chg (fun q => v.ownBlock = some q) w w' := Chg.of_grown k2 (fun k e => e)
    -- the rows' blocks are of another type than the one that is written
    have hap : ∀ z l, OwnZ w base z l → ∀ q, z.ownBlock = some q → ¬ v.ownBlock = some q := fun z l hz q hq hv => by
      rcases hz.2 with ⟨e, _⟩ | ⟨g, cap, cur, e, _, e3, _⟩
      · rw [e] at hq; cases hq
      · rw [e] at hq
        cases hq
        rcases h1.2 with ⟨f, _⟩ | ⟨g', cap', cur', f, _, f3, _⟩
        · rw [f] at hv; cases hv
        · rw [f] at hv
          cases hv
          rw [e3] at f3
          cases f3
    refine hK v' w' ⟨vs ++ [u], by rw [List.length_append]; exact k1, fun i z l hz hl => ?_⟩ k2 k4
    rcases Nat.lt_or_ge i vs.length with hi' | hi'
    · rw [List.getElem?_append_left hi'] at hz
      rw [List.getElem?_append_left (by omega)] at hl
      have ho := h2 i z l hz hl
      exact ho.chg hch (hap z l ho)
    · rw [List.getElem?_append_right hi'] at hz
      rw [List.getElem?_append_right (by omega)] at hl
      obtain ⟨e1, rfl⟩ : i - vs.length = 0 ∧ z = u := by
        rcases Nat.eq_zero_or_pos (i - vs.length) with e | e
        · rw [e] at hz; exact ⟨e, by simpa using hz.symm⟩
        · rw [List.getElem?_eq_none (by simp; omega)] at hz; cases hz
      rw [show i - rs.length = 0 by omega] at hl
      obtain rfl : r = l := by simpa using hl
      exact hu.chg hch (hap z r hu)

theorem cutW_takeF (o : List Int) : ∀ (ps : List Int) (k f : Nat) (h : k < ps.length), (cutW o f ps).take (k + 1) = (cutW o f ps).take k ++ [(o.drop (if k = 0 then f else upW o.length (ps.getD (k - 1) 0))).take (upW o.length ps[k] - (if k = 0 then f else upW o.length (ps.getD (k - 1) 0)))]
  | [], k, f, h => by simp at h
  | p :: ps, 0, f, _ => by
    unfold cutW
    simp
  | p :: ps, k + 1, f, h => by
    have ih := cutW_takeF o ps k (upW o.length p) (by simpa using h)
    unfold cutW
    rw [List.take_succ_cons, ih, List.take_succ_cons, List.cons_append]
    congr 3
    cases k with
    | zero => rfl
    | succ k => simp
theorem cutW_take (o ps : List Int) (k : Nat) (h : k < ps.length) : (cutW o 0 ps).take (k + 1) = (cutW o 0 ps).take k ++ [(o.drop (upW o.length (aheadW ps k))).take (upW o.length ps[k] - upW o.length (aheadW ps k))] := by
  have e : (if k = 0 then 0 else upW o.length (ps.getD (k - 1) 0)) = upW o.length (aheadW ps k) := by
    unfold aheadW
    split
    · rw [upW_zero]
    · rfl
  rw [cutW_takeF o ps k 0 h, e]
theorem rise_at (ps : List Int) (hr : riseW 0 ps = true) : ∀ k, k ≤ ps.length → riseW (aheadW ps k) (ps.drop k) = true
  | 0, _ => hr
  | k + 1, h => by
    have ih := rise_at ps hr k (by omega)
    rw [rise_drop ps k (by omega), Bool.and_eq_true] at ih
    exact ih.2
theorem ahead_lt (ps : List Int) (hr : riseW 0 ps = true) (k : Nat) (h : k < ps.length) : aheadW ps k < ps[k] ∧ aheadW ps (k + 1) = ps[k] ∧ 0 < ps[k] ∧ ps[k] ≤ 100 := by
  have ih := rise_at ps hr k (by omega)
  rw [rise_drop ps k h, Bool.and_eq_true, decide_eq_true_iff] at ih
  have h2 := riseW_at ps 0 k _ hr (List.getElem?_eq_getElem h)
  refine ⟨ih.1, ?_, h2.1, h2.2⟩
  unfold aheadW
  rw [if_neg (by omega), Nat.add_sub_cancel, List.getD_eq_getElem?_getD, List.getElem?_eq_getElem h]; rfl
set_option maxRecDepth 100000 in
set_option maxHeartbeats 2000000 in
theorem cut_any (x y : Value) (o ps : List Int) (w : World) (hx : IntsI w x o) (hy : IntsI w y ps) (hr : riseW 0 ps = true) (hp : ps.length ≤ 8) (ho : o.length ≤ 1000000) :
    Calls Tryd.prog 13 #[x, y] w fun e w' => ∃ v, e = .returned v ∧ PlanZ w' w.heap.size v (cutW o 0 ps) ∧ Below w.heap.size w w' := by
  have HR : Hid (0 < ps.length → ∃ b off c, y = .slice (some ⟨b, off, none⟩) ps.length c ∧ ps.length ≤ c ∧ b < w.heap.size ∧ ∀ (j : Nat) z, ps[j]? = some z → w.cell? ⟨b, off + j, none⟩ = some (vI z)) := fun h => hy.form h
  obtain ⟨ay, cy, rfl⟩ := hy.shape
  obtain ⟨ax, cx, rfl⟩ := hx.shape
  have HX : Hid (IntsI w (.slice ax o.length cx) o) := hx
  have HCX : Hid (o.length ≤ cx) := by obtain ⟨_, _, e, h, _⟩ := hx; cases e; exact h
  have HRI : Hid (∀ k (h : k < ps.length), aheadW ps k < ps[k] ∧ aheadW ps (k + 1) = ps[k] ∧ 0 < ps[k] ∧ ps[k] ≤ 100) := fun k h => ahead_lt ps hr k h
  have HTK : Hid (∀ k (h : k < ps.length), (cutW o 0 ps).take (k + 1) = (cutW o 0 ps).take k ++ [(o.drop (upW o.length (aheadW ps k))).take (upW o.length ps[k] - upW o.length (aheadW ps k))]) := fun k h => cutW_take o ps k h
  have HLN : Hid ((cutW o 0 ps).length = ps.length) := cutW_len o ps 0
  clear hx hy hr
  go_enter Tryd.func13, Tryd.ntmps13
  go_wp2
  go_loopw [5, 6, 12] (fun v f i wr => ∃ (k : Nat), k ≤ ps.length ∧ i = .int .i64 (k : Int) ∧ f = .int .i64 ((upW o.length (aheadW ps k) : Nat) : Int) ∧ Below w.heap.size w wr ∧ PlanZ wr w.heap.size v ((cutW o 0 ps).take k)) (fun _ _ i _ => ps.length - (Go.RowKit.intOf i).toNat)
  case atStart => exact ⟨0, Nat.zero_le _, rfl, by rw [show aheadW ps 0 = 0 from rfl, upW_zero]; rfl, Below.refl _ _, PlanZ.nil _ _⟩
  case round =>
    obtain ⟨k, hk, rfl, rfl, hB, hP⟩ := hrel
    have HP : Hid (PlanZ wr w.heap.size u5 ((cutW o 0 ps).take k)) := hP
    clear hP
    by_cases hlt : k < ps.length
    · obtain ⟨b, off, c', hyy, _, hb, hrr⟩ := HR.out (by omega)
      cases hyy
      have hc1 := hrr k _ (List.getElem?_eq_getElem hlt)
      have ix := fun w => index_intsI b off ps.length cy k w hlt
      obtain ⟨r1, r2, r3, r4⟩ := HRI.out k hlt
      have htk := HTK.out k hlt
      have hmn := upW_mono o.length (Int.le_of_lt r1)
      have hml := upW_le o.length r4
      have hint := upW_int o.length (Int.le_of_lt r3)
      rw [← r2] at htk hmn hml hint r3 r4
      obtain ⟨p, hpp⟩ : ∃ p, p = aheadW ps (k + 1) := ⟨_, rfl⟩
      rw [← r2, ← hpp] at hc1
      have HAH : Hid (p = aheadW ps (k + 1)) := hpp
      rw [← hpp] at htk hmn hml hint r3 r4
      clear r1 r2 hrr hpp
      have hc2 : wr.cell? ⟨b, off + k, none⟩ = some (vI p) := (hB.cell (p := ⟨b, off + k, none⟩) hb).trans hc1
      obtain ⟨F, hF⟩ : ∃ F, F = upW o.length (aheadW ps k) := ⟨_, rfl⟩
      obtain ⟨G, hG⟩ : ∃ G, G = upW o.length p := ⟨_, rfl⟩
      rw [← hF] at htk hmn ⊢
      rw [← hG] at htk hmn hml hint
      have HTK2 : Hid ((cutW o 0 ps).take (k + 1) = (cutW o 0 ps).take k ++ [(o.drop F).take (G - F)]) := htk
      have HG : Hid (G = upW o.length p) := hG
      have hsl := slice_midI ax o.length cx F G hmn (Nat.le_trans hml HCX.out)
      have HI2 : Hid (IntsI wr (.slice (restD ax cx F) (G - F) (cx - F)) ((o.drop F).take (G - F))) := (HX.out.mid F (G - F) (by omega)).below hB (Nat.le_refl _)
      have HL2 : Hid (((o.drop F).take (G - F)).length ≤ 1000000000) := by show _ ≤ _; simp; omega
      have HLK : Hid (((cutW o 0 ps).take k).length ≤ 1000000) := by show _ ≤ _; rw [List.length_take, HLN.out]; omega
      clear htk hF hG hc1
      generalize (o.drop F).take (G - F) = seg at *
      generalize (cutW o 0 ps).take k = got at *
      have hq1 : 0 ≤ p * (o.length : Int) := Int.mul_nonneg (by omega) (by omega)
      have hq2 : p * (o.length : Int) ≤ 100 * 1000000 := Int.mul_le_mul r4 (by omega) (by omega) (by omega)
      have hq3 : (p * (o.length : Int) + 100 - 1) / 100 = (G : Int) := by omega
      clear hint
      go_wp2_with fail
      refine (cloneI_any _ seg wr HL2.out HI2.out).mono ?_
      rintro e w1 ⟨v1, rfl, ho1, hb1⟩
      have hB1 : Below w.heap.size w w1 := hB.trans (hb1.mono hB.size)
      have hB2 : Below w.heap.size w (w1.alloc (.cells #[v1] 22)) := hB1.alloc hB1.size _
      have HPA : Hid (PlanZ (w1.alloc (.cells #[v1] 22)) w.heap.size u5 got) := (HP.out.below hb1 (Nat.le_refl _)).below ((Below.refl _ _).alloc (Nat.le_refl _) _) (Nat.le_refl _)
      have HOA : Hid (OwnZ (w1.alloc (.cells #[v1] 22)) w.heap.size v1 seg) := (ho1.mono hB.size).below ((Below.refl _ _).alloc (Nat.le_refl _) _) (Nat.le_refl _)
      have HCE : Hid ((w1.alloc (.cells #[v1] 22)).cell? ⟨w1.heap.size, 0, none⟩ = some v1) := (Blk.new w1 22 #[v1]).cell (j := 0) rfl
      have HBS : Hid (w.heap.size ≤ (w1.alloc (.cells #[v1] 22)).heap.size) := hB2.size
      have HPB : Hid (∀ q, u5.ownBlock = some q → w.heap.size ≤ q) := fun q hq => (HP.out.blocks q hq).1
      obtain ⟨av, cv, rfl⟩ := ho1.shape
      clear ho1 hb1
      go_wp2_with (at_builtin; refine app_row _ rfl (.tmp 23) (.tmp 29) rfl w.heap.size _ got rfl (by exact HPA.out) _ _ seg rfl (by exact HCE.out) (by exact HOA.out) HLK.out (by exact HBS.out) ?_; intro v2 w2 hp2 hg2 hv2)
      have hB3 : Below w.heap.size w w2 := hB2.grown hg2 hB2.size HPB.out
      go_roundw
      case rel => exact ⟨k + 1, hlt, by go_num, by rw [← HAH.out, ← HG.out], hB3, by rw [HTK2.out]; exact hp2⟩
      case measure => simp [Go.RowKit.intOf]; omega
    · have hkl : k = ps.length := by omega
      have HP2 : Hid (PlanZ wr w.heap.size u5 (cutW o 0 ps)) := by
        have := HP.out
        rw [hkl, ← HLN.out, List.take_length] at this
        exact this
      have hni : ¬ (k : Int) < (ps.length : Int) := by omega
      clear HP hkl
      go_wp2
      go_ret
      exact ⟨_, rfl, HP2.out, hB⟩
end Go.Proofs.YtnagdgkkkkpekabDoor
