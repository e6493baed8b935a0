/-
  What is proved here: boot.decode tells the entry that 32 bytes are, and whether they are one.
  Conditions: the bytes lie in memory; the variable fourBits holds the sixteen words.
-/
import Derived.Test.YtbdhkkdombdnkaaDoorJBootEnc
import Derived.Test.YtbdhkkdombdnkaaDoorJHeldMore
namespace Go.Proofs.YtbdhkkdombdnkaaDoor
open Go.RowKit

theorem exec_alloc9 {a : Act} {o : Oper} {w : World} (ho : o.op = .alloc 110) : (execOp a.eval o).run Tryd.prog w = .ok (.value (.pointer (some ⟨w.heap.size, 0, none⟩))) (w.alloc (.cells #[.slice none 0 0] 110)) := by
  unfold execOp
  simp only [ho]
  simp [go_sem]
theorem info_ent9 : (Tryd.prog.info? 65).map (·.size) = some 6 := by kernel_rfl
theorem info_boot9 : (Tryd.prog.info? 40).map (·.size) = some 5 := by kernel_rfl
theorem info_place9 : (Tryd.prog.info? 68).map (·.size) = some 2 := by kernel_rfl
theorem exec_storeV9 {a : Act} {o : Oper} {w : World} (x y : Operand) (ho : o.op = .store 110 x y) (g i : Nat) (ao : Option Addr) (n c : Nat) (u : Value) (hx : a.eval x = .pointer (some ⟨g, i, none⟩)) (hy : a.eval y = .slice ao n c) (hc : w.cell? ⟨g, i, none⟩ = some u) (hf : w.frozen? ⟨g, i, none⟩ = false) : (execOp a.eval o).run Tryd.prog w = .ok .skip (w.setCell ⟨g, i, none⟩ (.slice ao n c)) := by
  unfold execOp
  simp only [ho, hx, hy]
  simp [go_sem, hc, hf]
theorem exec_none9 {a : Act} {o : Oper} {w : World} (f : FuncId) (ts : Array TypeId) (ho : o.op = .call { callee := .value (.func f), args := #[], argTypes := ts }) (hc : ∀ args w, (callFunc f args).run Tryd.prog w = .ok (.enter f args) w) : (execOp a.eval o).run Tryd.prog w = .ok (.enter f #[]) w := by
  have he : a.eval (.func f) = .func (.func f) #[] #[] := rfl
  unfold execOp
  simp [ho, resolve, invoke, Deferred.ofValue, he, hc]
theorem agree_chg {S T : Nat → Prop} {w W : World} (hc : Chg S w W) (hT : ∀ b, T b → b < w.heap.size → ¬ S b) : Agree w W T := ⟨hc.size, fun b o hb hl => World.cell?_of_block (w := w) (w' := W) (a := ⟨b, o, none⟩) (hc.2 b hl (hT b hb hl))⟩
theorem exec_geq9 {a : Act} {o : Oper} {w : World} (t : TypeId) (x y : Operand) (ho : o.op = .binOp .geq t x y t) (m n : Int) (b : Bool) (hx : a.eval x = .int .i64 m) (hy : a.eval y = .int .i64 n) (h : decide (n ≤ m) = b) : (execOp a.eval o).run Tryd.prog w = .ok (.value (.bool b)) w := by
  subst h
  unfold execOp
  simp [ho, hx, hy]
  rfl
theorem dec_err {l : List Fld} {s : List UInt8} {z : Int} (h : decTop l s = .error z) : z ≠ 0 := by
  unfold decTop at h
  split at h
  · split at h
    · cases h
    · cases h; decide
  · cases h; decide
theorem decE_none {c : List UInt8} (h : openOf c = none) : decE c = none := by unfold decE; rw [h]
theorem decE_odd {c t : List UInt8} (h : openOf c = some t) (hz : (t.drop 15).all (· == 0) = false) : decE c = none := by
  unfold decE; rw [h]; dsimp only; rw [if_pos hz]
theorem decE_err {c t : List UInt8} {z : Int} (h : openOf c = some t) (hz : (t.drop 15).all (· == 0) = true) (hd : decTop bootF (t.take 15) = .error z) : decE c = none := by
  unfold decE; rw [h]; dsimp only; rw [if_neg (by rw [hz]; decide), hd]
theorem decE_ok {c t : List UInt8} {v : List Val} (h : openOf c = some t) (hz : (t.drop 15).all (· == 0) = true) (hd : decTop bootF (t.take 15) = .ok v) : decE c = if 1 ≤ genOf v ∧ (brOf v).ok then some (genOf v, brOf v) else none := by
  unfold decE; rw [h]; dsimp only; rw [if_neg (by rw [hz]; decide), hd]
theorem oneD_le {r m : Nat} {s t : List UInt8} {x : Val} (h : oneD (decL r) (numF m) s = some (x, t)) : x.n ≤ m := by
  unfold oneD at h
  cases ha : amtD (numF m) s with
  | none => rw [ha] at h; cases h
  | some p =>
    rw [ha] at h
    have h2 := amtD_enc ha (Nat.zero_le _)
    change (some (Val.mk p.1 [] [], p.2)) = some (x, t) at h
    cases h
    exact h2.2.1
theorem seq_one {r m : Nat} {l : List Fld} {s t : List UInt8} {v : List Val} (h : seqD (oneD (decL r)) (numF m :: l) s = some (v, t)) : ∃ x v' s', v = x :: v' ∧ x.n ≤ m ∧ seqD (oneD (decL r)) l s' = some (v', t) := by
  simp only [seqD] at h
  cases h1 : oneD (decL r) (numF m) s with
  | none => rw [h1] at h; cases h
  | some p =>
    rw [h1] at h
    simp only [Option.bind_some] at h
    cases h2 : seqD (oneD (decL r)) l p.2 with
    | none => rw [h2] at h; cases h
    | some q =>
      rw [h2] at h
      cases h
      exact ⟨p.1, q.1, p.2, rfl, oneD_le (by rw [h1]), by rw [h2]⟩
theorem dec_six {s : List UInt8} {v : List Val} (h : decTop bootF s = .ok v) : ∃ a b c d e f : Nat, (∃ a' b' c' d' e' f' : Val, v = [a', b', c', d', e', f'] ∧ a'.n = a ∧ b'.n = b ∧ c'.n = c ∧ d'.n = d ∧ e'.n = e ∧ f'.n = f) ∧ a ≤ 1073741824 ∧ b ≤ 1 ∧ c ≤ 2 ∧ d ≤ 15 ∧ e ≤ 1073741824 ∧ f ≤ 1073741824 := by
  unfold decTop at h
  rw [bootF_most, if_pos (show (some 15).isSome = true from rfl)] at h
  have h2 : ∃ t, decL 4 bootF s = some (v, t) := by
    cases hd : decL 4 bootF s with
    | none => rw [hd] at h; cases h
    | some p =>
      obtain ⟨v2, t2⟩ := p
      rw [hd] at h
      cases t2 with
      | nil => cases h; exact ⟨[], rfl⟩
      | cons _ _ => cases h
  obtain ⟨t, h2⟩ := h2
  change seqD (oneD (decL 3)) bootF s = some (v, t) at h2
  obtain ⟨a, v1, s1, rfl, ha, h3⟩ := seq_one h2
  obtain ⟨b, v2, s2, rfl, hb, h3⟩ := seq_one h3
  obtain ⟨c, v3, s3, rfl, hc, h3⟩ := seq_one h3
  obtain ⟨d, v4, s4, rfl, hd, h3⟩ := seq_one h3
  obtain ⟨e, v5, s5, rfl, he, h3⟩ := seq_one h3
  obtain ⟨f, v6, s6, rfl, hf, h3⟩ := seq_one h3
  simp only [seqD] at h3
  cases h3
  exact ⟨a.n, b.n, c.n, d.n, e.n, f.n, ⟨a, b, c, d, e, f, rfl, rfl, rfl, rfl, rfl, rfl, rfl⟩, ha, hb, hc, hd, he, hf⟩
set_option maxRecDepth 100000 in
theorem decode1_any (gb i n : Nat) (v : Value) (vs : List Val) (x : Val) (k : Nat) (w : World) (hb : w.cell? ⟨gb, 0, none⟩ = some v) (hV : Vals w k v vs) (hx : vs[i]? = some x) (hn : x.n = n) (hle : n ≤ 1073741824) : Calls Tryd.prog 69 #[.int .i64 (i : Int), .pointer (some ⟨gb, 0, none⟩)] w fun e w' => e = .returned (.int .i64 (n : Int)) ∧ w' = w := by
  have hi : i < vs.length := (List.getElem?_eq_some_iff.1 hx).1
  obtain ⟨ao, c, rfl, hm, h1⟩ := hV.form
  obtain ⟨b, off, rfl, hl, hc, h2⟩ := h1 (by omega)
  obtain ⟨c0, -⟩ := h2 i x hx
  rw [hn] at c0
  have hix := index_values b off vs.length c i w hi
  have hcv : IntKind.i64.wrap (n : Int) = (n : Int) := by rw [IntKind.wrap_i64]; omega
  clear hV h1 h2 hx hi hm hn
  go_enter Tryd.func69, Tryd.ntmps69
  go_wp2
  go_ret
  exact ⟨rfl, rfl⟩
def goodV (r : Except Int (List Val)) (W : World) (v : Value) : Prop := ∀ vs, r = .ok vs → Vals W 4 v vs
def codeV : Except Int (List Val) → Int
  | .ok _ => 0
  | .error c => c

theorem decU_any (v bv : Value) (s : List UInt8) (w : World) (hF : Flds w 1 v bootF) (hS : Seg w bv s) (hm : s.length ≤ maxLen) : Calls Tryd.prog 68 #[v, bv] w fun e w' => ∃ av nv cv, e = .returned (.tuple #[.slice av nv cv, .int .i64 (codeV (decTop bootF s))]) ∧ (∀ X, Agree w' X (fun b => w.heap.size ≤ b) → goodV (decTop bootF s) X (.slice av nv cv)) ∧ Below w.heap.size w w' := by
  refine (decode_any 1 v bootF bv s w hF hS hm).mono ?_
  intro e w' h
  unfold decodePost at h
  cases hd : decTop bootF s with
  | error z =>
    rw [hd] at h
    obtain ⟨rfl, hb⟩ := h
    exact ⟨none, 0, 0, rfl, fun X _ vs e => (by cases e), hb⟩
  | ok vs =>
    rw [hd] at h
    obtain ⟨⟨val, rfl, hV⟩, hb⟩ := h
    obtain ⟨ao, n, cc, rfl⟩ := vals_form (hV _ (Agree.refl _ _))
    exact ⟨ao, n, cc, rfl, fun X hX ws e => (by cases e; exact hV X hX), hb⟩

set_option maxRecDepth 100000 in
set_option maxHeartbeats 2000000 in
theorem decode9_any (v : Value) (c : List UInt8) (w : World) (hc : c.length = 32) (hseg : Seg w v c) (hgf : 1 < w.heap.size) (hf : Tab w 1 (fours.map v32)) :
    Calls Tryd.prog 60 #[v] w fun e w' => ∃ g b, e = .returned (.tuple #[enV g b, .bool (decE c).isSome]) ∧ (∀ p, decE c = some p → p = (g, b)) ∧ Below w.heap.size w w' := by
  have hb0 := (Below.refl w.heap.size w).alloc (Nat.le_refl _) (.cells #[.int .i64 0, .int .i64 0, .int .i64 0, .int .i64 0, .int .i64 0, .int .i64 0] 65)
  have hk0 := Blk.new w 65 #[.int .i64 0, .int .i64 0, .int .i64 0, .int .i64 0, .int .i64 0, .int .i64 0]
  have HO : Hid (Calls Tryd.prog 67 #[v] (w.alloc (.cells #[.int .i64 0, .int .i64 0, .int .i64 0, .int .i64 0, .int .i64 0, .int .i64 0] 65)) fun e w' => ∃ v, e = .returned (.tuple #[v, .bool (openOf c).isSome]) ∧ Own w' (w.alloc (.cells #[.int .i64 0, .int .i64 0, .int .i64 0, .int .i64 0, .int .i64 0, .int .i64 0] 65)).heap.size v ((openOf c).getD []) ∧ Below (w.alloc (.cells #[.int .i64 0, .int .i64 0, .int .i64 0, .int .i64 0, .int .i64 0, .int .i64 0] 65)).heap.size (w.alloc (.cells #[.int .i64 0, .int .i64 0, .int .i64 0, .int .i64 0, .int .i64 0, .int .i64 0] 65)) w') := open_any v c _ (by omega) (hseg.alloc _) (Nat.lt_of_lt_of_le hgf hb0.size) (hf.below hb0 hgf)
  obtain ⟨ao, cc, rfl⟩ := hseg.shapeD
  clear hseg
  have HD0 : Hid (openOf c = none → decE c = none) := decE_none
  have HD1 : Hid (∀ t, openOf c = some t → (t.drop 15).all (· == 0) = false → decE c = none) := fun t => decE_odd
  have HD2 : Hid (∀ t z, openOf c = some t → (t.drop 15).all (· == 0) = true → decTop bootF (t.take 15) = .error z → decE c = none) := fun t z => decE_err
  have HD3 : Hid (∀ t v, openOf c = some t → (t.drop 15).all (· == 0) = true → decTop bootF (t.take 15) = .ok v → decE c = if 1 ≤ genOf v ∧ (brOf v).ok then some (genOf v, brOf v) else none) := fun t v => decE_ok
  generalize decE c = DC at *
  cases hop : openOf c with
  | none =>
    obtain rfl : DC = none := HD0.out hop
    rw [hop] at HO
    clear HD0 HD1 HD2 HD3 hop hc
    go_enter Tryd.func60, Tryd.ntmps60
    go_wp2_with fail
    refine HO.out.mono ?_
    rintro e w1 ⟨v1, rfl, ho1, hb1⟩
    clear HO
    rw [World.size_alloc] at ho1 hb1
    change Own w1 _ v1 [] at ho1
    have hB1 : Below w.heap.size w w1 := hb0.trans (hb1.mono (by omega))
    have hk1 : Blk w1 w.heap.size 65 #[.int .i64 0, .int .i64 0, .int .i64 0, .int .i64 0, .int .i64 0, .int .i64 0] := hk0.below hb1 (by omega)
    clear hb0 hk0
    obtain ⟨at_, ct, hv1⟩ := ho1.seg.shapeD
    subst hv1
    clear ho1
    go_wp2_with (refine store_blk rfl 65 _ _ rfl rfl w.heap.size #[.int .i64 0, .int .i64 0, .int .i64 0, .int .i64 0, .int .i64 0, .int .i64 0] rfl rfl 65 _ hk1 info_ent9 rfl (by simp [Value.oneCell']) ?_; intro w3 hb3 hg3 hs3)
    (try simp only [Exit.inBlock, Exit.then])
    refine bodyPost_ret (results_pairK rfl _ _ w.heap.size 65 #[.int .i64 0, .int .i64 0, .int .i64 0, .int .i64 0, .int .i64 0, .int .i64 0] (0, 0) _ _ rfl rfl hb3 Tryd.underlying65 rfl info_ent9) rfl ?_
    exact ⟨0, ⟨0, 0, 0, 0, 0⟩, rfl, (fun p hp => by cases hp), below_grown hB1 hg3 hB1.size (fun q hq => by have h2 : w.heap.size = q := Option.some.inj hq; omega)⟩
  | some t =>
    have htl : t.length = 29 := by
      unfold openOf at hop
      rw [if_neg (by omega)] at hop
      split at hop
      · cases hop; rw [List.length_take]; omega
      · cases hop
    have HE1 : Hid ((t.drop 15).all (· == 0) = false → DC = none) := HD1.out t hop
    have HE2 : Hid (∀ z, (t.drop 15).all (· == 0) = true → decTop bootF (t.take 15) = .error z → DC = none) := fun z => HD2.out t z hop
    have HE3 : Hid (∀ v, (t.drop 15).all (· == 0) = true → decTop bootF (t.take 15) = .ok v → DC = if 1 ≤ genOf v ∧ (brOf v).ok then some (genOf v, brOf v) else none) := fun v => HD3.out t v hop
    rw [hop] at HO
    clear HD0 HD1 HD2 HD3
    have HTL : Hid (t.length = 29) := htl
    clear htl hop hc
    go_enter Tryd.func60, Tryd.ntmps60
    go_wp2_with fail
    refine HO.out.mono ?_
    rintro e w1 ⟨v1, rfl, ho1, hb1⟩
    clear HO
    rw [World.size_alloc] at ho1 hb1
    change Own w1 _ v1 t at ho1
    have hB1 : Below w.heap.size w w1 := hb0.trans (hb1.mono (by omega))
    have hk1 : Blk w1 w.heap.size 65 #[.int .i64 0, .int .i64 0, .int .i64 0, .int .i64 0, .int .i64 0, .int .i64 0] := hk0.below hb1 (by omega)
    clear hb0 hk0
    obtain ⟨at_, ct, hv1⟩ := ho1.seg.shapeD
    subst hv1
    have hct := (ho1.seg.takesD 15 (by rw [HTL.out]; decide))
    have hS15 := ho1.seg.dropsD 15 (by rw [HTL.out]; decide)
    have l1 : ∀ w, (Instr.slice 41 (.slice at_ t.length ct) (some (.int .i64 15)) none none).run Tryd.prog w = .ok (.slice (restD at_ ct 15) (t.length - 15) (ct - 15)) w := fun w => slice_restD at_ t.length ct 15 (by rw [HTL.out]; decide) w
    have L2 : Hid (∀ w, (Instr.slice 41 (.slice at_ t.length ct) none (some (.int .i64 15)) none).run Tryd.prog w = .ok (.slice at_ 15 ct) w) := fun w => slice_toD at_ t.length ct 15 hct.2 w
    have HA : Hid (Calls Tryd.prog 61 #[.slice (restD at_ ct 15) (t.length - 15) (ct - 15), .int .u8 0] w1 fun e w' => e = .returned (.bool ((t.drop 15).all (· == 0))) ∧ Below w1.heap.size w1 w') := are_any _ (t.drop 15) 0 w1 (by rw [List.length_drop, HTL.out]; decide) hS15
    have HS15 : Hid (Seg w1 (.slice at_ 15 ct) (t.take 15)) := hct.1
    have HL15 : Hid ((t.take 15).length ≤ maxLen) := by show _ ≤ _; rw [List.length_take, HTL.out]; decide
    clear hct hS15 ho1
    cases hz : (t.drop 15).all (· == 0) with
    | false =>
      obtain rfl : DC = none := HE1.out hz
      rw [hz] at HA
      clear HE1 HE2 HE3
      have c0 := hk1.cell (j := 0) rfl
      go_wp2_with fail
      refine HA.out.mono ?_
      rintro e w2 ⟨rfl, hb2⟩
      have hk2 := hk1.below hb2 hk1.lt
      clear HA c0 l1 L2
      go_wp2_with (refine store_blk rfl 65 _ _ rfl rfl w.heap.size #[.int .i64 0, .int .i64 0, .int .i64 0, .int .i64 0, .int .i64 0, .int .i64 0] rfl rfl 65 _ hk2 info_ent9 rfl (by simp [Value.oneCell']) ?_; intro w3 hb3 hg3 hs3)
      (try simp only [Exit.inBlock, Exit.then])
      refine bodyPost_ret (results_pairK rfl _ _ w.heap.size 65 #[.int .i64 0, .int .i64 0, .int .i64 0, .int .i64 0, .int .i64 0, .int .i64 0] (0, 0) _ _ rfl rfl hb3 Tryd.underlying65 rfl info_ent9) rfl ?_
      exact ⟨0, ⟨0, 0, 0, 0, 0⟩, rfl, (fun p hp => by cases hp), below_grown (hB1.trans (hb2.mono hB1.size)) hg3 (Nat.le_trans hB1.size hb2.size) (fun q hq => by have h2 : w.heap.size = q := Option.some.inj hq; omega)⟩
    | true =>
      rw [hz] at HA
      clear HE1
      have HE4 : Hid (∀ z, decTop bootF (t.take 15) = .error z → DC = none) := fun z => HE2.out z hz
      have HE5 : Hid (∀ v, decTop bootF (t.take 15) = .ok v → DC = if 1 ≤ genOf v ∧ (brOf v).ok then some (genOf v, brOf v) else none) := fun v => HE3.out v hz
      clear HE2 HE3 hz
      go_wp2_with fail
      refine HA.out.mono ?_
      rintro e w2 ⟨rfl, hb2⟩
      clear HA l1
      have hB2 : Below w.heap.size w w2 := hB1.trans (hb2.mono hB1.size)
      have hk2 := hk1.below hb2 hk1.lt
      have HS2 : Hid (Seg w2 (.slice at_ 15 ct) (t.take 15)) := HS15.out.below hb2 (Nat.le_refl _)
      clear HS15 hk1 hb2 hB1
      obtain ⟨cd, hcd⟩ : ∃ cd, cd = codeV (decTop bootF (t.take 15)) := ⟨_, rfl⟩
      have HCD : Hid (cd = codeV (decTop bootF (t.take 15))) := hcd
      clear hcd
      have HDC : Hid (∀ W v, Flds W 1 v bootF → Below w2.heap.size w2 W → Calls Tryd.prog 68 #[v, .slice at_ 15 ct] W fun e W' => ∃ av nv cv, e = .returned (.tuple #[.slice av nv cv, .int .i64 cd]) ∧ (∀ X, Agree W' X (fun b => W.heap.size ≤ b) → goodV (decTop bootF (t.take 15)) X (.slice av nv cv)) ∧ Below W.heap.size W W') := fun W v hF hW => by rw [HCD.out]; exact decU_any v _ _ W hF (HS2.out.below hW (Nat.le_refl _)) HL15.out
      have HFI : Hid (∀ W, Calls Tryd.prog 63 #[] W fun e w' => ∃ v, e = .returned v ∧ Flds w' 1 v bootF ∧ Below W.heap.size W w') := fields9_any
      clear HS2 HL15
      have HNZ : Hid (∀ z, decTop bootF (t.take 15) = .error z → z ≠ 0) := fun z => dec_err
      have HSX : Hid (∀ vs, decTop bootF (t.take 15) = .ok vs → ∃ a b c d e f : Nat, (∃ a' b' c' d' e' f' : Val, vs = [a', b', c', d', e', f'] ∧ a'.n = a ∧ b'.n = b ∧ c'.n = c ∧ d'.n = d ∧ e'.n = e ∧ f'.n = f) ∧ a ≤ 1073741824 ∧ b ≤ 1 ∧ c ≤ 2 ∧ d ≤ 15 ∧ e ≤ 1073741824 ∧ f ≤ 1073741824) := fun vs => dec_six
      generalize decTop bootF (t.take 15) = DT at *
      go_wp2_with fail
      refine Code.wp_mono (Q := fun e a' W' => e = .normal ∧ ∃ gb vf av nv cv, a' = { tmps := #[.slice ao c.length cc, undef, .pointer (some ⟨w.heap.size, 0, none⟩), .bool false, .slice at_ t.length ct, .bool true, .pointer (some ⟨gb, 0, none⟩), .int .i64 cd, undef, undef, .tuple #[.slice at_ t.length ct, .bool true], .slice ao c.length cc, .tuple #[.slice at_ t.length ct, .bool true], .slice at_ t.length ct, .bool true, .bool true, .bool false, .bool false, .slice at_ t.length ct, .slice (restD at_ ct 15) (t.length - 15) (ct - 15), .bool true, .bool false, .bool false, undef, .tuple #[.slice av nv cv, .int .i64 cd], vf, .slice at_ t.length ct, .slice at_ 15 ct, .tuple #[.slice av nv cv, .int .i64 cd], .slice av nv cv, .int .i64 cd, undef, undef, undef, undef, undef, undef, undef, undef, undef, undef, undef, undef, undef, undef, undef, undef, undef, undef, undef, undef, undef, undef, undef, undef, undef, undef, undef, undef, undef], defers := [] } ∧ Blk W' gb 110 #[.slice av nv cv] ∧ goodV DT W' (.slice av nv cv) ∧ Below w2.heap.size w2 W') ?_ ?_
      rotate_left
      · refine held_begin (fun _ => True) (by kernel_rfl) ?_
        refine held_take 1 26 _ (.slice at_ t.length ct) rfl rfl (by kernel_rfl) (by kernel_rfl) (by kernel_rfl) rfl trivial (fun _ _ => rfl) ?_
        simp only [Act.put, List.setIfInBounds_toArray, List.set_cons_succ, List.set_cons_zero]
        refine held_take 2 27 _ (.slice at_ 15 ct) rfl rfl (by kernel_rfl) (by kernel_rfl) (by kernel_rfl) rfl trivial (fun V _ => exec_slice7 (.tmp 26) none (some (.const (.int .i64 15))) none rfl (.slice at_ t.length ct) (.slice at_ 15 ct) none (some (.int .i64 15)) none rfl rfl rfl rfl (L2.out V)) ?_
        simp only [Act.put, List.setIfInBounds_toArray, List.set_cons_succ, List.set_cons_zero]
        have hx0 : Below w2.heap.size w2 w2.drew := (Below.refl _ _).drew
        refine held_all2 0 7 (by kernel_rfl) ?_ ?_
        · skip
          refine op_call 0 25 _ 63 #[] rfl rfl rfl (exec_none9 63 _ rfl Tryd.call63) ((HFI.out w2.drew).mono ?_)
          rintro e W1 ⟨vf, rfl, hF, hf1⟩
          have hx1 : Below w2.heap.size w2 W1 := hx0.trans (hf1.mono hx0.size)
          refine ⟨_, rfl, trivial, ?_⟩
          simp only [Act.put, List.setIfInBounds_toArray, List.set_cons_succ, List.set_cons_zero]
          refine held_all2 3 7 (by kernel_rfl) ?_ ?_
          · skip
            refine op_call 3 28 _ 68 #[vf, .slice at_ 15 ct] rfl rfl rfl (exec_two8 68 _ _ _ rfl _ _ rfl rfl Tryd.call68) ((HDC.out _ vf hF hx1).mono ?_)
            rintro e W2 ⟨av, nv, cv, rfl, hG, hd1⟩
            have hx2 : Below w2.heap.size w2 W2 := hx1.trans (hd1.mono hx1.size)
            refine ⟨_, rfl, trivial, ?_⟩
            simp only [Act.put, List.setIfInBounds_toArray, List.set_cons_succ, List.set_cons_zero]
            refine held_take 4 24 _ (.tuple #[.slice av nv cv, .int .i64 cd]) rfl rfl (by kernel_rfl) (by kernel_rfl) (by kernel_rfl) rfl trivial (fun _ _ => rfl) ?_
            simp only [Act.put, List.setIfInBounds_toArray, List.set_cons_succ, List.set_cons_zero]
            refine held_take 5 29 _ (.slice av nv cv) rfl rfl (by kernel_rfl) (by kernel_rfl) (by kernel_rfl) rfl trivial (fun _ _ => rfl) ?_
            simp only [Act.put, List.setIfInBounds_toArray, List.set_cons_succ, List.set_cons_zero]
            refine held_take 6 30 _ (.int .i64 cd) rfl rfl (by kernel_rfl) (by kernel_rfl) (by kernel_rfl) rfl trivial (fun _ _ => rfl) ?_
            simp only [Act.put, List.setIfInBounds_toArray, List.set_cons_succ, List.set_cons_zero]
            have hkA := Blk.new W2 110 #[.slice none 0 0]
            have hx3 : Below w2.heap.size w2 (W2.alloc (.cells #[.slice none 0 0] 110)) := hx2.alloc hx2.size _
            refine held_all1 7 (by kernel_rfl) (op_value 7 6 _ (.pointer (some ⟨W2.heap.size, 0, none⟩)) _ rfl rfl rfl (exec_alloc9 rfl) ⟨trivial, ?_⟩)
            simp only [Act.put, List.setIfInBounds_toArray, List.set_cons_succ, List.set_cons_zero]
            have hkS : Blk ((W2.alloc (.cells #[.slice none 0 0] 110)).setCell ⟨W2.heap.size, 0, none⟩ (.slice av nv cv)) W2.heap.size 110 #[.slice av nv cv] := (hkA.set 0 (.slice av nv cv)).of_eq rfl
            have hcS : Chg (fun b => b = W2.heap.size) (W2.alloc (.cells #[.slice none 0 0] 110)) ((W2.alloc (.cells #[.slice none 0 0] 110)).setCell ⟨W2.heap.size, 0, none⟩ (.slice av nv cv)) := (Chg.refl _ _).setCell W2.heap.size 0 _ (fun _ => rfl)
            have hxS : Below w2.heap.size w2 ((W2.alloc (.cells #[.slice none 0 0] 110)).setCell ⟨W2.heap.size, 0, none⟩ (.slice av nv cv)) := hx3.trans (hcS.below (fun k hk => by rw [hk]; exact hx2.size) hx3.size)
            have hGS := hG _ (agree_chg (((Chg.refl (fun b => b = W2.heap.size) W2).alloc _).trans hcS (fun _ _ h => h)) (fun b _ hl => by omega))
            refine held_all1 8 (by kernel_rfl) (op_skip 8 _ _ rfl rfl rfl (exec_storeV9 _ _ rfl W2.heap.size 0 av nv cv _ rfl rfl (hkA.cell (j := 0) rfl) (hkA.frozen 0)) ⟨trivial, ?_⟩)
            refine held_all1 9 (by kernel_rfl) (op_value 9 7 _ (.int .i64 cd) _ rfl rfl rfl rfl ⟨trivial, ?_⟩)
            simp only [Act.put, List.setIfInBounds_toArray, List.set_cons_succ, List.set_cons_zero]
            refine wpAnyH_done (by kernel_rfl) ?_ _
            refine NoPanic.normal ?_
            exact ⟨rfl, _, _, _, _, _, rfl, hkS, hGS, hxS⟩
          · skip
            have hkA := Blk.new W1 110 #[.slice none 0 0]
            have hx2 : Below w2.heap.size w2 (W1.alloc (.cells #[.slice none 0 0] 110)) := hx1.alloc hx1.size _
            have hFA : Flds (W1.alloc (.cells #[.slice none 0 0] 110)) 1 vf bootF := Flds.keeps (Keeps.of_below ((Below.refl W1.heap.size W1).alloc (Nat.le_refl _) _) (Nat.le_refl _)) _ _ _ hF
            refine op_value 7 6 _ (.pointer (some ⟨W1.heap.size, 0, none⟩)) _ rfl rfl rfl (exec_alloc9 rfl) ⟨trivial, ?_⟩
            simp only [Act.put, List.setIfInBounds_toArray, List.set_cons_succ, List.set_cons_zero]
            refine held_all1 3 (by kernel_rfl) ?_
            refine op_call 3 28 _ 68 #[vf, .slice at_ 15 ct] rfl rfl rfl (exec_two8 68 _ _ _ rfl _ _ rfl rfl Tryd.call68) ((HDC.out _ vf hFA hx2).mono ?_)
            rintro e W2 ⟨av, nv, cv, rfl, hG, hd1⟩
            have hx3 : Below w2.heap.size w2 W2 := hx2.trans (hd1.mono hx2.size)
            refine ⟨_, rfl, trivial, ?_⟩
            simp only [Act.put, List.setIfInBounds_toArray, List.set_cons_succ, List.set_cons_zero]
            refine held_take 4 24 _ (.tuple #[.slice av nv cv, .int .i64 cd]) rfl rfl (by kernel_rfl) (by kernel_rfl) (by kernel_rfl) rfl trivial (fun _ _ => rfl) ?_
            simp only [Act.put, List.setIfInBounds_toArray, List.set_cons_succ, List.set_cons_zero]
            refine held_take 5 29 _ (.slice av nv cv) rfl rfl (by kernel_rfl) (by kernel_rfl) (by kernel_rfl) rfl trivial (fun _ _ => rfl) ?_
            simp only [Act.put, List.setIfInBounds_toArray, List.set_cons_succ, List.set_cons_zero]
            refine held_take 6 30 _ (.int .i64 cd) rfl rfl (by kernel_rfl) (by kernel_rfl) (by kernel_rfl) rfl trivial (fun _ _ => rfl) ?_
            simp only [Act.put, List.setIfInBounds_toArray, List.set_cons_succ, List.set_cons_zero]
            have hkB := hkA.below hd1 (by simp)
            rw [World.size_alloc] at hG
            have hkS : Blk ((W2).setCell ⟨W1.heap.size, 0, none⟩ (.slice av nv cv)) W1.heap.size 110 #[.slice av nv cv] := (hkB.set 0 (.slice av nv cv)).of_eq rfl
            have hcS : Chg (fun b => b = W1.heap.size) (W2) ((W2).setCell ⟨W1.heap.size, 0, none⟩ (.slice av nv cv)) := (Chg.refl _ _).setCell W1.heap.size 0 _ (fun _ => rfl)
            have hxS : Below w2.heap.size w2 ((W2).setCell ⟨W1.heap.size, 0, none⟩ (.slice av nv cv)) := hx3.trans (hcS.below (fun k hk => by rw [hk]; exact hx1.size) hx3.size)
            have hGS := hG _ (agree_chg hcS (fun b hb _ => by omega))
            refine held_all1 8 (by kernel_rfl) (op_skip 8 _ _ rfl rfl rfl (exec_storeV9 _ _ rfl W1.heap.size 0 av nv cv _ rfl rfl (hkB.cell (j := 0) rfl) (hkB.frozen 0)) ⟨trivial, ?_⟩)
            refine held_all1 9 (by kernel_rfl) (op_value 9 7 _ (.int .i64 cd) _ rfl rfl rfl rfl ⟨trivial, ?_⟩)
            simp only [Act.put, List.setIfInBounds_toArray, List.set_cons_succ, List.set_cons_zero]
            refine wpAnyH_done (by kernel_rfl) ?_ _
            refine NoPanic.normal ?_
            exact ⟨rfl, _, _, _, _, _, rfl, hkS, hGS, hxS⟩
        · skip
          have hkA := Blk.new w2.drew 110 #[.slice none 0 0]
          have hx1 : Below w2.heap.size w2 (w2.drew.alloc (.cells #[.slice none 0 0] 110)) := hx0.alloc hx0.size _
          refine op_value 7 6 _ (.pointer (some ⟨w2.drew.heap.size, 0, none⟩)) _ rfl rfl rfl (exec_alloc9 rfl) ⟨trivial, ?_⟩
          simp only [Act.put, List.setIfInBounds_toArray, List.set_cons_succ, List.set_cons_zero]
          refine held_all1 0 (by kernel_rfl) ?_
          refine op_call 0 25 _ 63 #[] rfl rfl rfl (exec_none9 63 _ rfl Tryd.call63) ((HFI.out (w2.drew.alloc (.cells #[.slice none 0 0] 110))).mono ?_)
          rintro e W1 ⟨vf, rfl, hF, hf1⟩
          have hx2 : Below w2.heap.size w2 W1 := hx1.trans (hf1.mono hx1.size)
          refine ⟨_, rfl, trivial, ?_⟩
          simp only [Act.put, List.setIfInBounds_toArray, List.set_cons_succ, List.set_cons_zero]
          refine held_all1 3 (by kernel_rfl) ?_
          refine op_call 3 28 _ 68 #[vf, .slice at_ 15 ct] rfl rfl rfl (exec_two8 68 _ _ _ rfl _ _ rfl rfl Tryd.call68) ((HDC.out _ vf hF hx2).mono ?_)
          rintro e W2 ⟨av, nv, cv, rfl, hG, hd1⟩
          have hx3 : Below w2.heap.size w2 W2 := hx2.trans (hd1.mono hx2.size)
          refine ⟨_, rfl, trivial, ?_⟩
          simp only [Act.put, List.setIfInBounds_toArray, List.set_cons_succ, List.set_cons_zero]
          refine held_take 4 24 _ (.tuple #[.slice av nv cv, .int .i64 cd]) rfl rfl (by kernel_rfl) (by kernel_rfl) (by kernel_rfl) rfl trivial (fun _ _ => rfl) ?_
          simp only [Act.put, List.setIfInBounds_toArray, List.set_cons_succ, List.set_cons_zero]
          refine held_take 5 29 _ (.slice av nv cv) rfl rfl (by kernel_rfl) (by kernel_rfl) (by kernel_rfl) rfl trivial (fun _ _ => rfl) ?_
          simp only [Act.put, List.setIfInBounds_toArray, List.set_cons_succ, List.set_cons_zero]
          refine held_take 6 30 _ (.int .i64 cd) rfl rfl (by kernel_rfl) (by kernel_rfl) (by kernel_rfl) rfl trivial (fun _ _ => rfl) ?_
          simp only [Act.put, List.setIfInBounds_toArray, List.set_cons_succ, List.set_cons_zero]
          have hkB := (hkA.below hf1 (by simp)).below hd1 (Nat.lt_of_lt_of_le (by simp) hf1.size)
          have hsz : w2.drew.heap.size < W1.heap.size := Nat.lt_of_lt_of_le (by simp) hf1.size
          have hkS : Blk ((W2).setCell ⟨w2.drew.heap.size, 0, none⟩ (.slice av nv cv)) w2.drew.heap.size 110 #[.slice av nv cv] := (hkB.set 0 (.slice av nv cv)).of_eq rfl
          have hcS : Chg (fun b => b = w2.drew.heap.size) (W2) ((W2).setCell ⟨w2.drew.heap.size, 0, none⟩ (.slice av nv cv)) := (Chg.refl _ _).setCell w2.drew.heap.size 0 _ (fun _ => rfl)
          have hxS : Below w2.heap.size w2 ((W2).setCell ⟨w2.drew.heap.size, 0, none⟩ (.slice av nv cv)) := hx3.trans (hcS.below (fun k hk => by rw [hk]; exact hx0.size) hx3.size)
          have hGS := hG _ (agree_chg hcS (fun b hb _ => by omega))
          refine held_all1 8 (by kernel_rfl) (op_skip 8 _ _ rfl rfl rfl (exec_storeV9 _ _ rfl w2.drew.heap.size 0 av nv cv _ rfl rfl (hkB.cell (j := 0) rfl) (hkB.frozen 0)) ⟨trivial, ?_⟩)
          refine held_all1 9 (by kernel_rfl) (op_value 9 7 _ (.int .i64 cd) _ rfl rfl rfl rfl ⟨trivial, ?_⟩)
          simp only [Act.put, List.setIfInBounds_toArray, List.set_cons_succ, List.set_cons_zero]
          refine wpAnyH_done (by kernel_rfl) ?_ _
          refine NoPanic.normal ?_
          exact ⟨rfl, _, _, _, _, _, rfl, hkS, hGS, hxS⟩
      rintro e a3 w3 ⟨rfl, gb, vf, av, nv, cv, rfl, hk3, hG3, hb3⟩
      have hk4 := hk2.below hb3 hk2.lt
      have hB3 : Below w.heap.size w w3 := hB2.trans (hb3.mono hB2.size)
      have hlt3 : w.heap.size < w3.heap.size := hk4.lt
      clear hk2 HDC HFI hb3
      cases DT with
      | error z =>
        obtain rfl : DC = none := HE4.out z rfl
        have hz := HNZ.out z rfl
        obtain rfl : cd = z := HCD.out
        have hne : (cd != 0) = true := by simpa using hz
        clear HE4 HE5 HNZ HSX HCD hG3 hz L2
        go_wp2_with (refine store_blk rfl 65 _ _ rfl rfl w.heap.size #[.int .i64 0, .int .i64 0, .int .i64 0, .int .i64 0, .int .i64 0, .int .i64 0] rfl rfl 65 _ hk4 info_ent9 rfl (by simp [Value.oneCell']) ?_; intro w5 hb5 hg5 hs5)
        (try simp only [Exit.inBlock, Exit.then])
        refine bodyPost_ret (results_pairK rfl _ _ w.heap.size 65 #[.int .i64 0, .int .i64 0, .int .i64 0, .int .i64 0, .int .i64 0, .int .i64 0] (0, 0) _ _ rfl rfl hb5 Tryd.underlying65 rfl info_ent9) rfl ?_
        exact ⟨0, ⟨0, 0, 0, 0, 0⟩, rfl, (fun p hp => by cases hp), below_grown hB3 hg5 hB3.size (fun q hq => by have h2 : w.heap.size = q := Option.some.inj hq; omega)⟩
      | ok vs =>
        obtain ⟨na, nb, nc, nd, ne, nf, ⟨xa, xb, xc, xd, xe, xf, hvs, ea, eb, ec, ed, ee, ef⟩, la, lb, lc, ld, le, lf⟩ := HSX.out vs rfl
        have HX := HE5.out vs rfl
        have hgen : genOf vs = na := by rw [hvs, ← ea]; rfl
        have hbr : brOf vs = ⟨(nb : Int), (nc : Int) - 1, (nd : Int), (ne : Int), (nf : Int)⟩ := by rw [hvs, ← eb, ← ec, ← ed, ← ee, ← ef]; rfl
        rw [hgen, hbr] at HX
        have HX2 : Hid (DC = if 1 ≤ na ∧ BR.ok ⟨(nb : Int), (nc : Int) - 1, (nd : Int), (ne : Int), (nf : Int)⟩ then some (na, ⟨(nb : Int), (nc : Int) - 1, (nd : Int), (ne : Int), (nf : Int)⟩) else none) := HX
        have hV := hG3 vs rfl
        have hcb := hk3.cell (j := 0) rfl
        have H0 : Hid (Calls Tryd.prog 69 #[.int .i64 0, .pointer (some ⟨gb, 0, none⟩)] w3 fun e w' => e = .returned (.int .i64 (na : Int)) ∧ w' = w3) := decode1_any gb 0 na _ vs xa 4 w3 hcb hV (by rw [hvs]; rfl) ea (by omega)
        have H1 : Hid (Calls Tryd.prog 69 #[.int .i64 1, .pointer (some ⟨gb, 0, none⟩)] w3 fun e w' => e = .returned (.int .i64 (nb : Int)) ∧ w' = w3) := decode1_any gb 1 nb _ vs xb 4 w3 hcb hV (by rw [hvs]; rfl) eb (by omega)
        have H2 : Hid (Calls Tryd.prog 69 #[.int .i64 2, .pointer (some ⟨gb, 0, none⟩)] w3 fun e w' => e = .returned (.int .i64 (nc : Int)) ∧ w' = w3) := decode1_any gb 2 nc _ vs xc 4 w3 hcb hV (by rw [hvs]; rfl) ec (by omega)
        have H3 : Hid (Calls Tryd.prog 69 #[.int .i64 3, .pointer (some ⟨gb, 0, none⟩)] w3 fun e w' => e = .returned (.int .i64 (nd : Int)) ∧ w' = w3) := decode1_any gb 3 nd _ vs xd 4 w3 hcb hV (by rw [hvs]; rfl) ed (by omega)
        have H4 : Hid (Calls Tryd.prog 69 #[.int .i64 4, .pointer (some ⟨gb, 0, none⟩)] w3 fun e w' => e = .returned (.int .i64 (ne : Int)) ∧ w' = w3) := decode1_any gb 4 ne _ vs xe 4 w3 hcb hV (by rw [hvs]; rfl) ee (by omega)
        have H5 : Hid (Calls Tryd.prog 69 #[.int .i64 5, .pointer (some ⟨gb, 0, none⟩)] w3 fun e w' => e = .returned (.int .i64 (nf : Int)) ∧ w' = w3) := decode1_any gb 5 nf _ vs xf 4 w3 hcb hV (by rw [hvs]; rfl) ef (by omega)
        obtain rfl : cd = 0 := HCD.out
        clear HE4 HE5 HNZ HSX HCD hG3 L2 hV hcb hk3 HX hgen hbr hvs ea eb ec ed ee ef
        have hw1 : IntKind.i64.wrap ((nc : Int) - 1) = (nc : Int) - 1 := by rw [IntKind.wrap_i64]; omega
        have HL : Hid (na ≤ 1073741824 ∧ nb ≤ 1 ∧ nc ≤ 2 ∧ nd ≤ 15 ∧ ne ≤ 1073741824 ∧ nf ≤ 1073741824) := ⟨la, lb, lc, ld, le, lf⟩
        clear la lb lc ld le lf
        go_wp2_with fail
        refine H0.out.mono ?_
        rintro e w4 ⟨rfl, hw4⟩
        subst hw4
        clear H0
        go_wp2_with fail
        refine H1.out.mono ?_
        rintro e w4 ⟨rfl, hw4⟩
        subst hw4
        clear H1
        go_wp2_with fail
        refine H2.out.mono ?_
        rintro e w4 ⟨rfl, hw4⟩
        subst hw4
        clear H2
        go_wp2_with fail
        refine H3.out.mono ?_
        rintro e w4 ⟨rfl, hw4⟩
        subst hw4
        clear H3
        go_wp2_with fail
        refine H4.out.mono ?_
        rintro e w4 ⟨rfl, hw4⟩
        subst hw4
        clear H4
        go_wp2_with fail
        refine H5.out.mono ?_
        rintro e w4 ⟨rfl, hw4⟩
        subst hw4
        clear H5
        go_wp2_with fail
        have hkE := Blk.new w4 65 #[.int .i64 (na : Int), .int .i64 (nb : Int), .int .i64 ((nc : Int) - 1), .int .i64 (nd : Int), .int .i64 (ne : Int), .int .i64 (nf : Int)]
        have hbE := (Below.refl w4.heap.size w4).alloc (Nat.le_refl _) (.cells #[.int .i64 (na : Int), .int .i64 (nb : Int), .int .i64 ((nc : Int) - 1), .int .i64 (nd : Int), .int .i64 (ne : Int), .int .i64 (nf : Int)] 65)
        have hk5 := hk4.below hbE hk4.lt
        have hB5 : Below w.heap.size w (w4.alloc (.cells #[.int .i64 (na : Int), .int .i64 (nb : Int), .int .i64 ((nc : Int) - 1), .int .i64 (nd : Int), .int .i64 (ne : Int), .int .i64 (nf : Int)] 65)) := hB3.trans (hbE.mono hB3.size)
        obtain ⟨w5, hw5⟩ : ∃ w5, w5 = w4.alloc (.cells #[.int .i64 (na : Int), .int .i64 (nb : Int), .int .i64 ((nc : Int) - 1), .int .i64 (nd : Int), .int .i64 (ne : Int), .int .i64 (nf : Int)] 65) := ⟨_, rfl⟩
        rw [← hw5] at hkE hk5 hB5 ⊢
        obtain ⟨ge, hge⟩ : ∃ ge, ge = w4.heap.size := ⟨_, rfl⟩
        rw [← hge] at hkE hlt3 ⊢
        clear hk4 hbE hw5 hge hB3 hw1
        have HCL : Hid (∀ V, Blk V ge 65 #[.int .i64 (na : Int), .int .i64 (nb : Int), .int .i64 ((nc : Int) - 1), .int .i64 (nd : Int), .int .i64 (ne : Int), .int .i64 (nf : Int)] → V.rangeAt ge 0 [.int .i64 (na : Int), .int .i64 (nb : Int), .int .i64 ((nc : Int) - 1), .int .i64 (nd : Int), .int .i64 (ne : Int), .int .i64 (nf : Int)] ∧ V.cell? ⟨ge, 0, none⟩ = some (.int .i64 (na : Int)) ∧ V.rangeAt ge 1 [.int .i64 (nb : Int), .int .i64 ((nc : Int) - 1), .int .i64 (nd : Int), .int .i64 (ne : Int), .int .i64 (nf : Int)]) := fun V hV => ⟨hV.range', hV.cell (j := 0) rfl, fun j u hu => (by rw [Nat.add_comm]; exact hV.cell (j := j + 1) (by simpa using hu))⟩
        have hS0 := HCL.out w5.drew hkE.drew
        by_cases h1 : 1 ≤ na
        · have hg1 : decide ((1 : Int) ≤ (na : Int)) = true := decide_eq_true (by omega)
          refine held_begin (fun V => V.rangeAt ge 0 [.int .i64 (na : Int), .int .i64 (nb : Int), .int .i64 ((nc : Int) - 1), .int .i64 (nd : Int), .int .i64 (ne : Int), .int .i64 (nf : Int)] ∧ V.cell? ⟨ge, 0, none⟩ = some (.int .i64 (na : Int)) ∧ V.rangeAt ge 1 [.int .i64 (nb : Int), .int .i64 ((nc : Int) - 1), .int .i64 (nd : Int), .int .i64 (ne : Int), .int .i64 (nf : Int)]) (by kernel_rfl) ?_
          refine held_take 0 51 _ (.agg #[.int .i64 (na : Int), .int .i64 (nb : Int), .int .i64 ((nc : Int) - 1), .int .i64 (nd : Int), .int .i64 (ne : Int), .int .i64 (nf : Int)]) rfl rfl (by kernel_rfl) (by kernel_rfl) (by kernel_rfl) rfl hS0 (fun V hV => exec_loads 65 _ rfl ge 0 rfl [.int .i64 (na : Int), .int .i64 (nb : Int), .int .i64 ((nc : Int) - 1), .int .i64 (nd : Int), .int .i64 (ne : Int), .int .i64 (nf : Int)] _ hV.1 Tryd.underlying65 rfl info_ent9) ?_
          simp only [Act.put, List.setIfInBounds_toArray, List.set_cons_succ, List.set_cons_zero]
          refine held_take 1 52 _ (.pointer (some ⟨ge, 0, none⟩)) rfl rfl (by kernel_rfl) (by kernel_rfl) (by kernel_rfl) rfl hS0 (fun _ _ => rfl) ?_
          simp only [Act.put, List.setIfInBounds_toArray, List.set_cons_succ, List.set_cons_zero]
          refine held_take 2 53 _ (.int .i64 (na : Int)) rfl rfl (by kernel_rfl) (by kernel_rfl) (by kernel_rfl) rfl hS0 (fun V hV => exec_loadc 3 _ rfl _ _ rfl (load_one 3 (fun _ => by kernel_rfl) V _ _ _ hV.2.1)) ?_
          simp only [Act.put, List.setIfInBounds_toArray, List.set_cons_succ, List.set_cons_zero]
          refine held_take 3 54 _ (.bool true) rfl rfl (by kernel_rfl) (by kernel_rfl) (by kernel_rfl) rfl hS0 (fun V _ => exec_geq9 3 _ _ rfl (na : Int) 1 _ rfl rfl hg1) ?_
          simp only [Act.put, List.setIfInBounds_toArray, List.set_cons_succ, List.set_cons_zero]
          refine held_take 4 55 _ (.bool true) rfl rfl (by kernel_rfl) (by kernel_rfl) (by kernel_rfl) rfl hS0 (fun _ _ => rfl) ?_
          simp only [Act.put, List.setIfInBounds_toArray, List.set_cons_succ, List.set_cons_zero]
          refine held_take 5 56 _ (.pointer (some ⟨ge, 1, none⟩)) rfl rfl (by kernel_rfl) (by kernel_rfl) (by kernel_rfl) rfl hS0 (fun _ _ => rfl) ?_
          simp only [Act.put, List.setIfInBounds_toArray, List.set_cons_succ, List.set_cons_zero]
          refine held_take 6 57 _ (.agg #[.int .i64 (nb : Int), .int .i64 ((nc : Int) - 1), .int .i64 (nd : Int), .int .i64 (ne : Int), .int .i64 (nf : Int)]) rfl rfl (by kernel_rfl) (by kernel_rfl) (by kernel_rfl) rfl hS0 (fun V hV => exec_loads 40 _ rfl ge 1 rfl [.int .i64 (nb : Int), .int .i64 ((nc : Int) - 1), .int .i64 (nd : Int), .int .i64 (ne : Int), .int .i64 (nf : Int)] _ hV.2.2 Tryd.underlying40 rfl info_boot9) ?_
          simp only [Act.put, List.setIfInBounds_toArray, List.set_cons_succ, List.set_cons_zero]
          refine held_all1 7 (by kernel_rfl) (op_call 7 58 _ 25 #[.agg #[.int .i64 (nb : Int), .int .i64 ((nc : Int) - 1), .int .i64 (nd : Int), .int .i64 (ne : Int), .int .i64 (nf : Int)]] rfl rfl rfl (exec_one 25 _ _ rfl _ rfl Tryd.call25) ((right9_any ⟨(nb : Int), (nc : Int) - 1, (nd : Int), (ne : Int), (nf : Int)⟩ _).mono ?_))
          rintro e W6 ⟨rfl, hb6⟩
          have hb6' : Below w5.heap.size w5 W6 := ((Below.refl _ _).drew).trans hb6
          have hS1 := HCL.out W6 (hkE.below hb6' hkE.lt)
          have hk6 := hk5.below hb6' hk5.lt
          have hB6 : Below w.heap.size w W6 := hB5.trans (hb6'.mono hB5.size)
          refine ⟨_, rfl, hS1, ?_⟩
          simp only [Act.put, List.setIfInBounds_toArray, List.set_cons_succ, List.set_cons_zero]
          refine held_take 8 59 _ (.bool (rightR ⟨(nb : Int), (nc : Int) - 1, (nd : Int), (ne : Int), (nf : Int)⟩)) rfl rfl (by kernel_rfl) (by kernel_rfl) (by kernel_rfl) rfl hS1 (fun _ _ => rfl) ?_
          simp only [Act.put, List.setIfInBounds_toArray, List.set_cons_succ, List.set_cons_zero]
          refine held_all1 9 (by kernel_rfl) (op_row 9 _ rfl rfl rfl 65 _ _ rfl w.heap.size #[.int .i64 (na : Int), .int .i64 (nb : Int), .int .i64 ((nc : Int) - 1), .int .i64 (nd : Int), .int .i64 (ne : Int), .int .i64 (nf : Int)] rfl rfl 65 _ hk6 info_ent9 rfl (by simp [Value.oneCell']) ?_)
          intro W7 hb7 hg7 hs7
          have hS7 := HCL.out W7 ((hkE.below hb6' hkE.lt).grown hg7 (fun e => by have := Option.some.inj e; omega))
          refine ⟨hS7, ?_⟩
          refine held_all1 10 (by kernel_rfl) (op_value 10 3 _ (.bool (rightR ⟨(nb : Int), (nc : Int) - 1, (nd : Int), (ne : Int), (nf : Int)⟩)) W7 rfl rfl rfl rfl ⟨hS7, ?_⟩)
          simp only [Act.put, List.setIfInBounds_toArray, List.set_cons_succ, List.set_cons_zero]
          refine wpAnyH_done (by kernel_rfl) ?_ _
          refine NoPanic.normal ?_
          go_wp2
          (try simp only [Exit.inBlock, Exit.then])
          refine bodyPost_ret (results_pairK rfl _ _ w.heap.size 65 #[.int .i64 (na : Int), .int .i64 (nb : Int), .int .i64 ((nc : Int) - 1), .int .i64 (nd : Int), .int .i64 (ne : Int), .int .i64 (nf : Int)] (0, 0) _ _ rfl rfl hb7 Tryd.underlying65 rfl info_ent9) rfl ?_
          have hDC : DC = if BR.ok ⟨(nb : Int), (nc : Int) - 1, (nd : Int), (ne : Int), (nf : Int)⟩ then some (na, ⟨(nb : Int), (nc : Int) - 1, (nd : Int), (ne : Int), (nf : Int)⟩) else none := by rw [HX2.out]; simp only [h1, true_and]
          refine ⟨na, ⟨(nb : Int), (nc : Int) - 1, (nd : Int), (ne : Int), (nf : Int)⟩, ?_, ?_, below_grown hB6 hg7 hB6.size (fun q hq => by have h2 : w.heap.size = q := Option.some.inj hq; omega)⟩
          · have : DC.isSome = rightR ⟨(nb : Int), (nc : Int) - 1, (nd : Int), (ne : Int), (nf : Int)⟩ := by rw [hDC]; unfold rightR; by_cases hok : BR.ok ⟨(nb : Int), (nc : Int) - 1, (nd : Int), (ne : Int), (nf : Int)⟩ <;> simp [hok]
            rw [this]; rfl
          · intro p hp; rw [hDC] at hp; by_cases hok : BR.ok ⟨(nb : Int), (nc : Int) - 1, (nd : Int), (ne : Int), (nf : Int)⟩
            · rw [if_pos hok] at hp; exact (Option.some.inj hp).symm
            · rw [if_neg hok] at hp; cases hp

        · have hg1 : decide ((1 : Int) ≤ (na : Int)) = false := decide_eq_false (by omega)
          refine held_begin (fun V => V.rangeAt ge 0 [.int .i64 (na : Int), .int .i64 (nb : Int), .int .i64 ((nc : Int) - 1), .int .i64 (nd : Int), .int .i64 (ne : Int), .int .i64 (nf : Int)] ∧ V.cell? ⟨ge, 0, none⟩ = some (.int .i64 (na : Int)) ∧ V.rangeAt ge 1 [.int .i64 (nb : Int), .int .i64 ((nc : Int) - 1), .int .i64 (nd : Int), .int .i64 (ne : Int), .int .i64 (nf : Int)]) (by kernel_rfl) ?_
          refine held_take 0 51 _ (.agg #[.int .i64 (na : Int), .int .i64 (nb : Int), .int .i64 ((nc : Int) - 1), .int .i64 (nd : Int), .int .i64 (ne : Int), .int .i64 (nf : Int)]) rfl rfl (by kernel_rfl) (by kernel_rfl) (by kernel_rfl) rfl hS0 (fun V hV => exec_loads 65 _ rfl ge 0 rfl [.int .i64 (na : Int), .int .i64 (nb : Int), .int .i64 ((nc : Int) - 1), .int .i64 (nd : Int), .int .i64 (ne : Int), .int .i64 (nf : Int)] _ hV.1 Tryd.underlying65 rfl info_ent9) ?_
          simp only [Act.put, List.setIfInBounds_toArray, List.set_cons_succ, List.set_cons_zero]
          refine held_take 1 52 _ (.pointer (some ⟨ge, 0, none⟩)) rfl rfl (by kernel_rfl) (by kernel_rfl) (by kernel_rfl) rfl hS0 (fun _ _ => rfl) ?_
          simp only [Act.put, List.setIfInBounds_toArray, List.set_cons_succ, List.set_cons_zero]
          refine held_take 2 53 _ (.int .i64 (na : Int)) rfl rfl (by kernel_rfl) (by kernel_rfl) (by kernel_rfl) rfl hS0 (fun V hV => exec_loadc 3 _ rfl _ _ rfl (load_one 3 (fun _ => by kernel_rfl) V _ _ _ hV.2.1)) ?_
          simp only [Act.put, List.setIfInBounds_toArray, List.set_cons_succ, List.set_cons_zero]
          refine held_take 3 54 _ (.bool false) rfl rfl (by kernel_rfl) (by kernel_rfl) (by kernel_rfl) rfl hS0 (fun V _ => exec_geq9 3 _ _ rfl (na : Int) 1 _ rfl rfl hg1) ?_
          simp only [Act.put, List.setIfInBounds_toArray, List.set_cons_succ, List.set_cons_zero]
          refine held_take 4 55 _ (.bool false) rfl rfl (by kernel_rfl) (by kernel_rfl) (by kernel_rfl) rfl hS0 (fun _ _ => rfl) ?_
          simp only [Act.put, List.setIfInBounds_toArray, List.set_cons_succ, List.set_cons_zero]
          refine held_pass 5 56 _ rfl rfl (by kernel_rfl) (by kernel_rfl) (by kernel_rfl) rfl hS0 ?_
          simp only [Act.put, List.setIfInBounds_toArray, List.set_cons_succ, List.set_cons_zero]
          refine held_pass 6 57 _ rfl rfl (by kernel_rfl) (by kernel_rfl) (by kernel_rfl) rfl hS0 ?_
          simp only [Act.put, List.setIfInBounds_toArray, List.set_cons_succ, List.set_cons_zero]
          refine held_pass 7 58 _ rfl rfl (by kernel_rfl) (by kernel_rfl) (by kernel_rfl) rfl hS0 ?_
          simp only [Act.put, List.setIfInBounds_toArray, List.set_cons_succ, List.set_cons_zero]
          refine held_take 8 59 _ (.bool false) rfl rfl (by kernel_rfl) (by kernel_rfl) (by kernel_rfl) rfl hS0 (fun _ _ => rfl) ?_
          simp only [Act.put, List.setIfInBounds_toArray, List.set_cons_succ, List.set_cons_zero]
          refine held_all1 9 (by kernel_rfl) (op_row 9 _ rfl rfl rfl 65 _ _ rfl w.heap.size #[.int .i64 (na : Int), .int .i64 (nb : Int), .int .i64 ((nc : Int) - 1), .int .i64 (nd : Int), .int .i64 (ne : Int), .int .i64 (nf : Int)] rfl rfl 65 _ hk5.drew info_ent9 rfl (by simp [Value.oneCell']) ?_)
          intro W7 hb7 hg7 hs7
          have hS7 := HCL.out W7 ((hkE.drew).grown hg7 (fun e => by have := Option.some.inj e; omega))
          refine ⟨hS7, ?_⟩
          refine held_all1 10 (by kernel_rfl) (op_value 10 3 _ (.bool false) W7 rfl rfl rfl rfl ⟨hS7, ?_⟩)
          simp only [Act.put, List.setIfInBounds_toArray, List.set_cons_succ, List.set_cons_zero]
          refine wpAnyH_done (by kernel_rfl) ?_ _
          refine NoPanic.normal ?_
          go_wp2
          (try simp only [Exit.inBlock, Exit.then])
          refine bodyPost_ret (results_pairK rfl _ _ w.heap.size 65 #[.int .i64 (na : Int), .int .i64 (nb : Int), .int .i64 ((nc : Int) - 1), .int .i64 (nd : Int), .int .i64 (ne : Int), .int .i64 (nf : Int)] (0, 0) _ _ rfl rfl hb7 Tryd.underlying65 rfl info_ent9) rfl ?_
          obtain rfl : DC = none := by rw [HX2.out, if_neg (fun h => h1 h.1)]
          exact ⟨na, ⟨(nb : Int), (nc : Int) - 1, (nd : Int), (ne : Int), (nf : Int)⟩, rfl, (fun p hp => by cases hp), below_grown hB5.drew hg7 hB5.drew.size (fun q hq => by have h2 : w.heap.size = q := Option.some.inj hq; omega)⟩
end Go.Proofs.YtbdhkkdombdnkaaDoor
