/-
  What is proved here: leases in memory: rows of a table's own, one more, one turned; leases that lie anywhere.
  Conditions: those that each fact names.
-/
import Derived.Test.YthlohlomefiebaaProg
import Derived.Test.YthlohlomefiebaaLePure
import Derived.Test.YthlohlomefiebaaShaWorld
import Derived.Test.YthlohlomefiebaaChgKit
import Derived.Test.YthlohlomefiebaaBlkKit
import Derived.ArgAppend
import Derived.Laws.OwnMore
namespace Go.Proofs.Ythlohlomefiebaa
open Go.RowKit

def leL (e : LE) : List Value := [.int .i64 e.n, .int .i64 e.d, .int .i64 e.u]
def leV (e : LE) : Value := .agg (leL e).toArray
def lesC (l : List LE) : List Value := l.flatMap leL
theorem lesC_len : ∀ l : List LE, (lesC l).length = l.length * 3
  | [] => rfl
  | x :: l => by
    show (leL x ++ lesC l).length = _
    rw [List.length_append, lesC_len l, List.length_cons]
    show 3 + _ = _
    omega
theorem lesC_app (l m : List LE) : lesC (l ++ m) = lesC l ++ lesC m := by simp [lesC]
theorem lesC_one (x : LE) : lesC [x] = leL x := by simp [lesC]
theorem lesC_at : ∀ (l : List LE) (i k : Nat) (e : LE), l[i]? = some e → k < 3 → (lesC l)[i * 3 + k]? = (leL e)[k]?
  | [], _, _, _, h, _ => by cases h
  | x :: l, 0, k, e, h, hk => by
    cases h
    show (leL x ++ lesC l)[0 * 3 + k]? = _
    rw [Nat.zero_mul, Nat.zero_add, List.getElem?_append_left (by exact hk)]
  | x :: l, i + 1, k, e, h, hk => by
    show (leL x ++ lesC l)[(i + 1) * 3 + k]? = _
    rw [List.getElem?_append_right (by show 3 ≤ _; omega), show (i + 1) * 3 + k - (leL x).length = i * 3 + k by show (i + 1) * 3 + k - 3 = _; omega]
    exact lesC_at l i k e h hk
theorem lesC_set (l : List LE) (i : Nat) (e x : LE) (h : l[i]? = some e) : lesC (l.set i x) = splice (lesC l) (i * 3) (leL x) := by
  obtain ⟨h1, h2⟩ := set_split h x
  have hi : i < l.length := (List.getElem?_eq_some_iff.1 h).1
  have hA : (lesC (l.take i)).length = i * 3 := by rw [lesC_len, List.length_take, Nat.min_eq_left (by omega)]
  have e0 : lesC l = lesC (l.take i) ++ (leL e ++ lesC (l.drop (i + 1))) := by
    conv => lhs; rw [h1]
    rw [lesC_app]; rfl
  rw [h2, e0, lesC_app]
  have key : ∀ A B C X : List Value, A.length = i * 3 → X.length = C.length → A ++ (X ++ B) = splice (A ++ (C ++ B)) (i * 3) X := fun A B C X h1 h2 => by
    unfold splice
    rw [← h1, List.take_append_of_le_length (Nat.le_refl _), List.take_length, h2, ← List.append_assoc A C B, show A.length + C.length = (A ++ C).length by simp, List.drop_append_of_le_length (Nat.le_refl _), List.drop_length, List.nil_append]
  exact key _ _ _ _ hA rfl
theorem one_le (e : LE) : ∀ u ∈ leL e, u.oneCell' = true := by
  intro u hu
  simp only [leL, List.mem_cons, List.not_mem_nil, or_false] at hu
  rcases hu with rfl | rfl | rfl <;> rfl
theorem one_les : ∀ l : List LE, ∀ u ∈ lesC l, u.oneCell' = true
  | [], u, hu => by cases hu
  | x :: l, u, hu => by
    have hu' : u ∈ leL x ++ lesC l := hu
    rcases List.mem_append.1 hu' with h | h
    · exact one_le x u h
    · exact one_les l u h
/-- Rows of some cells each that lie in memory. -/
def RowIn {α : Type} (enc : α → List Value) (k : Nat) (w : World) (v : Value) (l : List α) : Prop := ∃ ao c, v = .slice ao l.length c ∧ l.length ≤ c ∧ l.length ≤ maxLen ∧ (ao = none → c = 0) ∧ ∀ (i : Nat) e, l[i]? = some e → ∃ b off, ao = some ⟨b, off, none⟩ ∧ b < w.heap.size ∧ ∀ (j : Nat) u, (enc e)[j]? = some u → w.cell? ⟨b, off + i * k + j, none⟩ = some u
theorem RowIn.shape {α : Type} {enc : α → List Value} {k : Nat} {w : World} {v : Value} {l : List α} (h : RowIn enc k w v l) : ∃ ao c, v = .slice ao l.length c := by
  obtain ⟨ao, c, h1, _⟩ := h
  exact ⟨ao, c, h1⟩
theorem RowIn.form {α : Type} {enc : α → List Value} {k : Nat} {w : World} {v : Value} {l : List α} (h : RowIn enc k w v l) (hn : 0 < l.length) : ∃ b off c, v = .slice (some ⟨b, off, none⟩) l.length c ∧ l.length ≤ c ∧ b < w.heap.size ∧ ∀ (i : Nat) e, l[i]? = some e → ∀ (j : Nat) u, (enc e)[j]? = some u → w.cell? ⟨b, off + i * k + j, none⟩ = some u := by
  obtain ⟨ao, c, h1, h2, _, _, h3⟩ := h
  obtain ⟨b, off, rfl, hb, _⟩ := h3 0 _ (List.getElem?_eq_getElem hn)
  refine ⟨b, off, c, h1, h2, hb, fun i e hi => ?_⟩
  obtain ⟨b', off', e', _, hc⟩ := h3 i e hi
  cases e'
  exact hc
theorem RowIn.chg {α : Type} {enc : α → List Value} {k : Nat} {S : Nat → Prop} {w w' : World} {v : Value} {l : List α} (h : RowIn enc k w v l) (hc : Chg S w w') (hS : ∀ q, v.ownBlock = some q → ¬ S q) : RowIn enc k w' v l := by
  obtain ⟨ao, c, h1, h2, h3, h3', h4⟩ := h
  refine ⟨ao, c, h1, h2, h3, h3', fun i e hi => ?_⟩
  obtain ⟨b, off, e1, hb, hcell⟩ := h4 i e hi
  have hn := hS b (by rw [h1, e1]; rfl)
  exact ⟨b, off, e1, Nat.lt_of_lt_of_le hb hc.size, fun j u hu => by rw [World.cell?_of_block (w := w) (a := ⟨b, off + i * k + j, none⟩) (hc.2 b hb hn)]; exact hcell j u hu⟩
theorem RowIn.after {α : Type} {enc : α → List Value} {k : Nat} {w w' : World} {B : Nat} {v : Value} {l : List α} (h : RowIn enc k w v l) (hb : Below B w w') (hB : w.heap.size ≤ B) : RowIn enc k w' v l := h.chg (S := fun _ => False) (Chg.of_below hb hB) (fun _ _ => id)
/-- Leases that lie in memory. -/
def LeIn (w : World) (v : Value) (l : List LE) : Prop := RowIn leL 3 w v l
/-- Leases in a row of one's own. -/
def LeR (w : World) (base : Nat) (v : Value) (l : List LE) : Prop := w.ownsRow base 43 3 v l.length (lesC l)
theorem LeR.nil (w : World) (base : Nat) : LeR w base (.slice none 0 0) [] := ⟨rfl, .inl ⟨rfl, rfl⟩⟩
theorem LeR.chg {S : Nat → Prop} {w w' : World} {base : Nat} {v : Value} {l : List LE} (h : LeR w base v l) (hc : Chg S w w') (hv : ∀ k, v.ownBlock = some k → ¬ S k) : LeR w' base v l := by
  refine ⟨h.1, ?_⟩
  rcases h.2 with h2 | ⟨g, cap, cur, h1, h2, h3, h4⟩
  · exact .inl h2
  · exact .inr ⟨g, cap, cur, h1, h2, by rw [hc.2 g (Array.getElem?_eq_some_iff.1 h3).1 (hv g (by rw [h1]; rfl))]; exact h3, h4⟩
theorem LeR.after {w w' : World} {base B : Nat} {v : Value} {l : List LE} (h : LeR w base v l) (hb : Below B w w') (hB : w.heap.size ≤ B) : LeR w' base v l := h.chg (S := fun _ => False) (Chg.of_below hb hB) (fun _ _ => id)
theorem LeR.mono {w : World} {base base' : Nat} {v : Value} {l : List LE} (h : LeR w base v l) (hb : base' ≤ base) : LeR w base' v l := by
  refine ⟨h.1, ?_⟩
  rcases h.2 with h2 | ⟨g, cap, cur, h1, h2, h3⟩
  · exact .inl h2
  · exact .inr ⟨g, cap, cur, h1, Nat.le_trans hb h2, h3⟩
theorem LeR.lt {w : World} {base : Nat} {v : Value} {l : List LE} (h : LeR w base v l) : ∀ k, v.ownBlock = some k → base ≤ k ∧ k < w.heap.size := World.ownsRow.lt h
theorem LeR.blk {w : World} {base : Nat} {v : Value} {l : List LE} (h : LeR w base v l) (hn : 0 < l.length) : ∃ b c cur, v = .slice (some ⟨b, 0, none⟩) l.length c ∧ base ≤ b ∧ Blk w b 43 cur ∧ l.length ≤ c ∧ c ≤ maxLen ∧ cur.size = c * 3 ∧ cur.toList.take (l.length * 3) = lesC l := by
  rcases h.2 with ⟨h1, h2⟩ | ⟨g, cap, cur, h1, h2, h3, h4, h5, h6, h7⟩
  · omega
  · exact ⟨g, cap, cur, h1, h2, h3, h4, h5, h6, h7⟩
theorem LeR.shape {w : World} {base : Nat} {v : Value} {l : List LE} (h : LeR w base v l) : ∃ ao c, v = .slice ao l.length c := by
  rcases h.2 with ⟨h1, h2⟩ | ⟨g, cap, cur, h1, _⟩
  · exact ⟨none, 0, by rw [h1, h2]⟩
  · exact ⟨_, _, h1⟩
theorem LeR.at {w : World} {base : Nat} {v : Value} {l : List LE} (h : LeR w base v l) {i : Nat} {e : LE} (hi : l[i]? = some e) : ∃ b c, v = .slice (some ⟨b, 0, none⟩) l.length c ∧ b < w.heap.size ∧ base ≤ b ∧ ∀ (k : Nat) u, (leL e)[k]? = some u → w.cell? ⟨b, i * 3 + k, none⟩ = some u := by
  have hl : i < l.length := (List.getElem?_eq_some_iff.1 hi).1
  obtain ⟨b, c, cur, h1, h2, h3, h4, h5, h6, h7⟩ := h.blk (by omega)
  refine ⟨b, c, h1, h3.lt, h2, fun k u hu => ?_⟩
  have hk : k < 3 := (List.getElem?_eq_some_iff.1 hu).1
  refine h3.cell ?_
  have h8 := lesC_at l i k e hi hk
  rw [hu, ← h7, List.getElem?_take_of_lt (by omega)] at h8
  rw [← h8]
  simp
theorem LeR.lies {w : World} {base : Nat} {v : Value} {l : List LE} (h : LeR w base v l) : LeIn w v l := by
  rcases h.2 with ⟨h1, h2⟩ | ⟨g, cap, cur, h1, h2, h3, h4, h5, _⟩
  · obtain rfl := List.eq_nil_of_length_eq_zero h2
    exact ⟨none, 0, h1, Nat.le_refl _, by unfold maxLen; exact Nat.zero_le _, fun _ => rfl, fun i e hi => by simp at hi⟩
  · refine ⟨_, cap, h1, h4, Nat.le_trans h4 h5, (fun e => by cases e), fun i e hi => ?_⟩
    obtain ⟨b, c, e1, hb, _, hc⟩ := h.at hi
    rw [h1] at e1
    cases e1
    exact ⟨g, 0, rfl, hb, fun k u hu => by rw [Nat.zero_add]; exact hc k u hu⟩
theorem LeIn.shape {w : World} {v : Value} {l : List LE} (h : LeIn w v l) : ∃ ao c, v = .slice ao l.length c := RowIn.shape h
theorem LeIn.form {w : World} {v : Value} {l : List LE} (h : LeIn w v l) (hn : 0 < l.length) : ∃ b off c, v = .slice (some ⟨b, off, none⟩) l.length c ∧ l.length ≤ c ∧ b < w.heap.size ∧ ∀ (i : Nat) e, l[i]? = some e → ∀ (k : Nat) u, (leL e)[k]? = some u → w.cell? ⟨b, off + i * 3 + k, none⟩ = some u := RowIn.form h hn
theorem LeIn.chg {S : Nat → Prop} {w w' : World} {v : Value} {l : List LE} (h : LeIn w v l) (hc : Chg S w w') (hS : ∀ q, v.ownBlock = some q → ¬ S q) : LeIn w' v l := RowIn.chg h hc hS
theorem LeIn.after {w w' : World} {B : Nat} {v : Value} {l : List LE} (h : LeIn w v l) (hb : Below B w w') (hB : w.heap.size ≤ B) : LeIn w' v l := RowIn.after h hb hB
theorem index_le (b off len c I : Nat) (w : World) (h : I < len) : (Instr.indexAt 27 (.slice (some ⟨b, off, none⟩) len c) (.int .i64 (I : Int))).run Try.prog w = .ok (.pointer (some ⟨b, off + I * 3, none⟩)) w := by
  have hs : ∀ w, (sizeOf 43).run Try.prog w = .ok 3 w := fun w => by kernel_rfl
  have hi : (0 : Int) ≤ (I : Int) ∧ (I : Int) < (len : Int) := by omega
  simp [Instr.indexAt, asIntOf, run_underlying Try.underlying27, hs, hi, Addr.add_mid]
  intro h2
  omega
theorem index_le0 (b len c I : Nat) (w : World) (h : I < len) : (Instr.indexAt 27 (.slice (some ⟨b, 0, none⟩) len c) (.int .i64 (I : Int))).run Try.prog w = .ok (.pointer (some ⟨b, I * 3, none⟩)) w := by
  have := index_le b 0 len c I w h
  rwa [Nat.zero_add] at this
theorem info_le : (Try.prog.info? 43).map (·.size) = some 3 := by kernel_rfl
theorem info_leX : (Try.prog.info? 43).map (fun i => (i.zero, i.size, i.bytes)) = some (some (.agg #[.int .i64 0, .int .i64 0, .int .i64 0]), 3, 24) := by kernel_rfl
theorem parts_le : ∃ i, Try.prog.info? 43 = some i ∧ i.zero = some (.agg #[.int .i64 0, .int .i64 0, .int .i64 0]) ∧ i.size = 3 ∧ i.bytes = 24 := info_parts info_leX
theorem under_les : Try.prog.underlying 27 = some (.slice 43) := by kernel_rfl
theorem below_newE (w : World) (o : Obj) : Below w.heap.size w (w.alloc o) := (Below.refl w.heap.size w).alloc (Nat.le_refl _) o
/-- More of them, wherever those lie. -/
theorem LeR.app {w : World} {base : Nat} {v : Value} {l : List LE} (h : LeR w base v l) {x : Value} {m : List LE} (hI : LeIn w x m) (hn : l.length + m.length ≤ 1000000) (hb : base ≤ w.heap.size) : ∃ v' W', (∀ ty, (Builtin.append_ #[27, 27] ty #[v, x]).run Try.prog w = .ok v' W') ∧ LeR W' base v' (l ++ m) ∧ (∀ q, v'.ownBlock = some q → v.ownBlock = some q ∨ w.heap.size ≤ q) ∧ Chg (fun q => v.ownBlock = some q) w W' := by
  obtain ⟨i0, hi, hz0, hz1, hz2⟩ := parts_le
  obtain ⟨ao, c, rfl, h2, h3, h3', h4⟩ := hI
  cases ao with
  | none =>
    have hm : m = [] := by
      cases m with
      | nil => rfl
      | cons z l => obtain ⟨b, off, e, _⟩ := h4 0 z rfl; cases e
    subst hm
    obtain rfl := h3' rfl
    refine ⟨v, w, fun ty => ?_, by rw [List.append_nil]; exact h, fun q e => .inl e, Chg.refl _ _⟩
    rcases h.2 with ⟨rfl, hz⟩ | ⟨g, cap, cur, rfl, _, _, h5, _⟩
    · simp [Builtin.append_, run_underlying under_les, sizeOf, typeInfo, hi, Builtin.lenOf, Builtin.firstCells]
    · simp [Builtin.append_, run_underlying under_les, sizeOf, typeInfo, hi, Builtin.lenOf, Builtin.firstCells, loadCells, h5, storeCells]
  | some ad =>
    obtain ⟨v', w', h0, h5, h6, h7, h8⟩ := run_append_own_at (P := Try.prog) w base 27 27 43 i0 _ 3 24 under_les hi hz0 hz1 hz2 rfl (by decide) v l.length (lesC l) h ad m.length c (lesC m) (lesC_len m) (fun j y hy => by
      have hj : j < m.length * 3 := by rw [← lesC_len]; exact (List.getElem?_eq_some_iff.1 hy).1
      obtain ⟨b, off, e, _, hc⟩ := h4 (j / 3) _ (List.getElem?_eq_getElem (by omega))
      cases e
      have e3 := lesC_at m (j / 3) (j % 3) _ (List.getElem?_eq_getElem (by omega)) (by omega)
      rw [show j / 3 * 3 + j % 3 = j by omega, hy] at e3
      rw [Addr.add_mid]
      have := hc (j % 3) y e3.symm
      rwa [show off + j / 3 * 3 + j % 3 = off + j by omega] at this) (one_les m) (by unfold maxLen; omega) (by omega) hb
    refine ⟨v', w', fun ty => h0, ?_, fun q hq => ?_, Chg.of_grown (S := fun q => v.ownBlock = some q) h6 (fun k e => e)⟩
    · unfold LeR
      rw [List.length_append, lesC_app]
      exact h5
    · rcases h8 with e | e
      · left; rw [← e]; exact hq
      · right; rw [e] at hq; cases hq; exact Nat.le_refl _
/-- One row in a fresh block. -/
theorem leIn_one (w : World) (e : LE) : LeIn (w.alloc (.cells (leL e).toArray 43)) (.slice (some ⟨w.heap.size, 0, none⟩) 1 1) [e] := by
  have hk := Blk.new w 43 (leL e).toArray
  refine ⟨_, 1, rfl, Nat.le_refl _, by unfold maxLen; show 1 ≤ _; omega, (fun h => by cases h), fun i x hi => ?_⟩
  match i, hi with
  | 0, hi =>
    cases hi
    exact ⟨w.heap.size, 0, rfl, hk.lt, fun k u hu => hk.cell (by simpa using hu)⟩
  | (i + 1), hi => simp at hi
/-- One more. -/
theorem LeR.more {w : World} {base : Nat} {v : Value} {l : List LE} (h : LeR w base v l) (e : LE) (hn : l.length ≤ 900000) (hb : base ≤ w.heap.size) : ∃ v' W', (∀ ty, (Builtin.append_ #[27, 27] ty #[v, .slice (some ⟨w.heap.size, 0, none⟩) 1 1]).run Try.prog (w.alloc (.cells (leL e).toArray 43)) = .ok v' W') ∧ LeR W' base v' (l ++ [e]) ∧ (∀ q, v'.ownBlock = some q → v.ownBlock = some q ∨ w.heap.size ≤ q) ∧ Chg (fun q => v.ownBlock = some q) w W' := by
  have h' : LeR (w.alloc (.cells (leL e).toArray 43)) base v l := h.after (below_newE w _) (Nat.le_refl _)
  obtain ⟨v', W', h0, h1, h2, h3⟩ := h'.app (leIn_one w e) (by show l.length + 1 ≤ _; omega) (Nat.le_trans hb (by simp))
  exact ⟨v', W', h0, h1, fun q hq => (h2 q hq).imp_right (fun k => by rw [World.size_alloc] at k; omega), ((Chg.refl (fun q => v.ownBlock = some q) w).alloc _).trans h3 (fun _ _ h => h)⟩
/-- One turned, all of it. -/
theorem LeR.turn {w W : World} {base b c : Nat} {l : List LE} (h : LeR w base (.slice (some ⟨b, 0, none⟩) l.length c) l) {i : Nat} {e : LE} (hi : l[i]? = some e) (x : LE) (hk : ∀ cur, Blk w b 43 cur → Blk W b 43 (splice cur.toList (i * 3) (leL x)).toArray) : LeR W base (.slice (some ⟨b, 0, none⟩) l.length c) (l.set i x) := by
  have hl : i < l.length := (List.getElem?_eq_some_iff.1 hi).1
  obtain ⟨b', c', cur, h1, h2, h3, h4, h5, h6, h7⟩ := h.blk (by omega)
  cases h1
  have hk2 := hk cur h3
  unfold LeR
  rw [List.length_set]
  have h33 : (leL x).length = 3 := rfl
  have h8 : cur.toList.length = c * 3 := by simpa using h6
  have hm := Nat.mul_le_mul_right 3 h4
  have hs : (splice cur.toList (i * 3) (leL x)).length = c * 3 := by
    unfold splice
    rw [List.length_append, List.length_append, List.length_take, List.length_drop, h33, h8]
    omega
  refine ⟨by rw [lesC_len, List.length_set], .inr ⟨b, c, _, rfl, h2, hk2, h4, h5, by simpa using hs, ?_⟩⟩
  rw [lesC_set l i e x hi, ← h7]
  apply List.ext_getElem?
  intro j
  unfold splice
  rw [List.getElem?_take]
  by_cases hj : j < l.length * 3
  · rw [if_pos hj]
    rcases Nat.lt_or_ge j (i * 3) with h9 | h9
    · rw [List.getElem?_append_left (by rw [List.length_take, h8]; omega), List.getElem?_append_left (by rw [List.length_take, List.length_take, h8]; omega), List.getElem?_take_of_lt h9, List.getElem?_take_of_lt h9, List.getElem?_take_of_lt hj]
    · have a1 : (cur.toList.take (i * 3)).length = i * 3 := by rw [List.length_take, h8]; omega
      have a2 : ((cur.toList.take (l.length * 3)).take (i * 3)).length = i * 3 := by rw [List.length_take, List.length_take, h8]; omega
      rw [List.getElem?_append_right (show (cur.toList.take (i * 3)).length ≤ j by omega), List.getElem?_append_right (show ((cur.toList.take (l.length * 3)).take (i * 3)).length ≤ j by omega), a1, a2]
      rcases Nat.lt_or_ge (j - i * 3) 3 with h10 | h10
      · rw [List.getElem?_append_left (by omega), List.getElem?_append_left (by omega)]
      · rw [List.getElem?_append_right (by omega), List.getElem?_append_right (by omega), List.getElem?_drop, List.getElem?_drop, List.getElem?_take_of_lt (by omega)]
  · rw [if_neg hj]
    symm
    rw [List.getElem?_eq_none_iff]
    rw [List.length_append, List.length_append, List.length_take, List.length_take, List.length_drop, List.length_take, h33, h8]
    omega
/-- Its moment alone. -/
theorem LeR.until {w : World} {base b c : Nat} {l : List LE} (h : LeR w base (.slice (some ⟨b, 0, none⟩) l.length c) l) {i : Nat} {e : LE} (hi : l[i]? = some e) (u : Int) : LeR (w.setCell ⟨b, i * 3 + 2, none⟩ (.int .i64 u)) base (.slice (some ⟨b, 0, none⟩) l.length c) (l.set i ⟨e.n, e.d, u⟩) := by
  have hl : i < l.length := (List.getElem?_eq_some_iff.1 hi).1
  refine h.turn hi _ (fun cur hcur => ?_)
  obtain ⟨b', c', cur', h1, h2, h3, h4, h5, h6, h7⟩ := h.blk (by omega)
  cases h1
  have : cur = cur' := by
    have := hcur.symm.trans h3
    cases this; rfl
  subst this
  refine (hcur.set (i * 3 + 2) _).of_eq ?_
  have h8 : cur.toList.length = c * 3 := by simpa using h6
  have hc : ∀ k v, (leL e)[k]? = some v → cur.toList[i * 3 + k]? = some v := fun k v hv => by
    have hk : k < 3 := (List.getElem?_eq_some_iff.1 hv).1
    have := lesC_at l i k e hi hk
    rw [← h7, List.getElem?_take_of_lt (by omega), hv] at this
    exact this
  have c0 := hc 0 _ rfl
  have c1 := hc 1 _ rfl
  apply Array.ext'
  rw [Array.toList_setIfInBounds]
  apply List.ext_getElem?
  intro j
  have hm := Nat.mul_le_mul_right 3 h4
  show _ = (splice cur.toList (i * 3) _)[j]?
  unfold splice
  rw [List.getElem?_set]
  have a1 : (cur.toList.take (i * 3)).length = i * 3 := by rw [List.length_take, h8]; omega
  rcases Nat.lt_or_ge j (i * 3) with h9 | h9
  · rw [if_neg (by omega), List.getElem?_append_left (by omega), List.getElem?_take_of_lt h9]
  · rw [List.getElem?_append_right (by omega), a1]
    rcases Nat.lt_or_ge (j - i * 3) 3 with h10 | h10
    · rw [List.getElem?_append_left (by exact h10)]
      obtain ⟨k, rfl⟩ : ∃ k, j = i * 3 + k := ⟨j - i * 3, by omega⟩
      rw [Nat.add_sub_cancel_left] at h10 ⊢
      match k, h10 with
      | 0, _ => rw [if_neg (by omega)]; exact c0
      | 1, _ => rw [if_neg (by omega)]; exact c1
      | 2, _ => rw [if_pos rfl, if_pos (by omega)]; rfl
    · rw [if_neg (by omega), List.getElem?_append_right (by exact h10), List.getElem?_drop]
      congr 1
      show j = i * 3 + 3 + (j - i * 3 - 3)
      omega
end Go.Proofs.Ythlohlomefiebaa
