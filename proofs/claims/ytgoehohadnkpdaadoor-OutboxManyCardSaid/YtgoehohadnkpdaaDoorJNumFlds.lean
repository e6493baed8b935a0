/-
  What is proved here: rows of fields and of values of numbers alone that a call makes for itself by append.
  Conditions: those that each fact names.
-/
import Derived.Test.YtgoehohadnkpdaaDoorJBootPure
import Derived.Test.YtgoehohadnkpdaaDoorJSegKit
import Derived.Test.YtgoehohadnkpdaaDoorJChgWorld
import Derived.Maps.AppendAt
namespace Go.Proofs.YtgoehohadnkpdaaDoor
open Go.RowKit

theorem app_ran9 (w w' : World) {ops : Array Oper} {rest : List Oper} {o : Oper} {a : Act} {Q : Exit → Act → World → Prop} (hgd : o.guard = none) (s x : Operand) (t : TypeId) (ho : o.op = .call { callee := .builtin .append, args := #[s, x], argTypes := #[t, t] }) (vs vx v' : Value) (hs : a.eval s = vs) (hx : a.eval x = vx)
    (hr : ∀ ty, (Builtin.append_ #[t, t] ty #[vs, vx]).run Tryd.prog w = .ok v' w') (h : wpList Tryd.prog ops Q rest (a.put o.dst v') w') : wpList Tryd.prog ops Q (o :: rest) a w := by
  refine wpList_plain hgd fun K hK => ?_
  unfold Oper.wp execOp
  simp only [ho, resolve, invoke, builtin, Sem.run_bind, Sem.run_pure, Result.andThen_ok, List.map_toArray, List.map_cons, List.map_nil, hs, hx, hr]
  exact hK _ _ h
theorem info_parts9 {t : TypeId} {z : Value} {n b : Nat} (h : (Tryd.prog.info? t).map (fun i => (i.zero, i.size, i.bytes)) = some (some z, n, b)) : ∃ i, Tryd.prog.info? t = some i ∧ i.zero = some z ∧ i.size = n ∧ i.bytes = b := by
  cases hi : Tryd.prog.info? t with
  | none => rw [hi] at h; cases h
  | some i =>
    rw [hi] at h
    simp only [Option.map_some, Option.some.injEq, Prod.mk.injEq] at h
    exact ⟨i, rfl, h.1, h.2.1, h.2.2⟩
theorem info_fld9 : (Tryd.prog.info? 127).map (fun i => (i.zero, i.size, i.bytes)) = some (some (.agg #[.int .i64 0, .int .u64 0, .int .u64 0, .slice none 0 0]), 4, 48) := by kernel_rfl
theorem info_val9 : (Tryd.prog.info? 102).map (fun i => (i.zero, i.size, i.bytes)) = some (some (.agg #[.int .u64 0, .slice none 0 0, .slice none 0 0]), 3, 56) := by kernel_rfl
theorem under_flds9 : Tryd.prog.underlying 104 = some (.slice 127) := by kernel_rfl
theorem under_vals9 : Tryd.prog.underlying 97 = some (.slice 102) := by kernel_rfl
def fldC9 (m : Nat) : List Value := [.int .i64 1, .int .u64 0, .int .u64 (m : Int), .slice none 0 0]
def valC9 (n : Nat) : List Value := [.int .u64 (n : Int), .slice none 0 0, .slice none 0 0]
def fldCs (l : List Nat) : List Value := l.flatMap fldC9
def valCs (l : List Nat) : List Value := l.flatMap valC9
theorem app_one9 (t e : TypeId) (z : Value) (size bytes : Nat) (ht : Tryd.prog.underlying t = some (.slice e)) (hz : (Tryd.prog.info? e).map (fun i => (i.zero, i.size, i.bytes)) = some (some z, size, bytes)) (hzs : z.cells.size = size) (hsz : 0 < size) (hby : bytes ≤ 100) (w : World) (base n : Nat) (v : Value) (xs news : List Value) (hown : w.ownsRow base e size v n xs) (hl : news.length = size) (h1 : ∀ u ∈ news, u.oneCell' = true) (hn : n ≤ 1000000) (hbase : base ≤ w.heap.size) :
    ∃ v' W', (∀ ty, (Builtin.append_ #[t, t] ty #[v, .slice (some ⟨w.heap.size, 0, none⟩) 1 1]).run Tryd.prog (w.alloc (.cells news.toArray e)) = .ok v' W') ∧ W'.ownsRow base e size v' (n + 1) (xs ++ news) ∧ ∀ {B : Nat} {w0 : World}, B ≤ base → Below B w0 w → B ≤ w.heap.size → Below B w0 W' := by
  have hb := (Below.refl w.heap.size w).alloc (Nat.le_refl _) (.cells news.toArray e)
  have hk := Blk.new w e news.toArray
  have h' : (w.alloc (.cells news.toArray e)).ownsRow base e size v n xs := World.ownsRow.alloc hown _
  obtain ⟨i0, hi, hz0, hz1, hz2⟩ := info_parts9 hz
  obtain ⟨v', w', h0, h2, h3, _, _⟩ := run_append_own_at (P := Tryd.prog) _ base t t e i0 z size bytes ht hi hz0 hz1 hz2 hzs hsz v n xs h' ⟨w.heap.size, 0, none⟩ 1 1 news (by omega) (fun j y hy => by
    rw [Addr.add_mid, Nat.zero_add]
    exact hk.cell (by simpa using hy)) h1 (by unfold maxLen; omega) (by
      have : (n + 1) * bytes ≤ (n + 1) * 100 := Nat.mul_le_mul_left _ hby
      omega) (Nat.le_trans hbase hb.size)
  exact ⟨v', w', fun ty => h0, h2, fun {B w0} hB hw hs => below_grown (hw.trans (hb.mono hs)) h3 (Nat.le_trans hs hb.size) (fun q hq => Nat.le_trans hB (World.ownsRow.lt h' q hq).1)⟩
theorem fldCs_at : ∀ (l : List Nat) (i j m : Nat), l[i]? = some m → j < 4 → (fldCs l)[i * 4 + j]? = (fldC9 m)[j]?
  | [], _, _, _, h, _ => by cases h
  | x :: l, 0, j, m, h, hj => by
    cases h
    show (fldC9 x ++ fldCs l)[0 * 4 + j]? = _
    rw [Nat.zero_mul, Nat.zero_add, List.getElem?_append_left (by exact hj)]
  | x :: l, i + 1, j, m, h, hj => by
    show (fldC9 x ++ fldCs l)[(i + 1) * 4 + j]? = _
    rw [List.getElem?_append_right (by show 4 ≤ _; omega), show (i + 1) * 4 + j - (fldC9 x).length = i * 4 + j by show (i + 1) * 4 + j - 4 = _; omega]
    exact fldCs_at l i j m h hj
theorem valCs_at : ∀ (l : List Nat) (i j m : Nat), l[i]? = some m → j < 3 → (valCs l)[i * 3 + j]? = (valC9 m)[j]?
  | [], _, _, _, h, _ => by cases h
  | x :: l, 0, j, m, h, hj => by
    cases h
    show (valC9 x ++ valCs l)[0 * 3 + j]? = _
    rw [Nat.zero_mul, Nat.zero_add, List.getElem?_append_left (by exact hj)]
  | x :: l, i + 1, j, m, h, hj => by
    show (valC9 x ++ valCs l)[(i + 1) * 3 + j]? = _
    rw [List.getElem?_append_right (by show 3 ≤ _; omega), show (i + 1) * 3 + j - (valC9 x).length = i * 3 + j by show (i + 1) * 3 + j - 3 = _; omega]
    exact valCs_at l i j m h hj
theorem flds9_of {w : World} {base : Nat} {v : Value} (l : List Nat) (h0 : 0 < l.length) (hm : ∀ x ∈ l, x < 18446744073709551616) (hl : l.length ≤ maxLen) (h : w.ownsRow base 127 4 v l.length (fldCs l)) : Flds w 1 v (l.map numF) := by
  obtain ⟨g, cap, he, _, hg⟩ := World.ownsRow.form h h0
  have hb : l.length ≤ cap := by
    rcases h.2 with ⟨h1, _⟩ | ⟨g', cap', cur, h1, _, _, h4, _⟩
    · rw [he] at h1; cases h1
    · rw [he] at h1; cases h1; exact h4
  subst he
  have hc : ∀ (j : Nat) u, (fldCs l)[j]? = some u → w.cell? ⟨g, j, none⟩ = some u := fun j u hu => by
    have := World.ownsRow.cells h (g := g) rfl j u hu
    rwa [Addr.add_mid, Nat.zero_add] at this
  refine ⟨some ⟨g, 0, none⟩, cap, by rw [List.length_map], by rw [List.length_map]; exact hl, fun _ => ⟨g, 0, rfl, hg, by rw [List.length_map]; exact hb, fun i f hf => ?_⟩⟩
  rw [List.getElem?_map] at hf
  cases hx : l[i]? with
  | none => rw [hx] at hf; cases hf
  | some m =>
    rw [hx] at hf
    cases hf
    rw [Nat.zero_add]
    refine ⟨hc _ _ (fldCs_at l i 0 m hx (by decide)), hc _ _ (fldCs_at l i 1 m hx (by decide)), hc _ _ (fldCs_at l i 2 m hx (by decide)), ⟨_, hc _ _ (fldCs_at l i 3 m hx (by decide)), ⟨rfl, rfl⟩⟩, by show (0 : Nat) < _; decide, hm m (List.mem_of_getElem? hx)⟩
theorem vals9_of {w : World} {base : Nat} {v : Value} (l : List Nat) (h0 : 0 < l.length) (hm : ∀ x ∈ l, x < 18446744073709551616) (hl : l.length ≤ maxLen) (h : w.ownsRow base 102 3 v l.length (valCs l)) : Vals w 1 v (l.map numV) := by
  obtain ⟨g, cap, he, _, hg⟩ := World.ownsRow.form h h0
  have hb : l.length ≤ cap := by
    rcases h.2 with ⟨h1, _⟩ | ⟨g', cap', cur, h1, _, _, h4, _⟩
    · rw [he] at h1; cases h1
    · rw [he] at h1; cases h1; exact h4
  subst he
  have hc : ∀ (j : Nat) u, (valCs l)[j]? = some u → w.cell? ⟨g, j, none⟩ = some u := fun j u hu => by
    have := World.ownsRow.cells h (g := g) rfl j u hu
    rwa [Addr.add_mid, Nat.zero_add] at this
  refine ⟨some ⟨g, 0, none⟩, cap, by rw [List.length_map], by rw [List.length_map]; exact hl, fun _ => ⟨g, 0, rfl, hg, by rw [List.length_map]; exact hb, fun i f hf => ?_⟩⟩
  rw [List.getElem?_map] at hf
  cases hx : l[i]? with
  | none => rw [hx] at hf; cases hf
  | some m =>
    rw [hx] at hf
    cases hf
    rw [Nat.zero_add]
    refine ⟨hc _ _ (valCs_at l i 0 m hx (by decide)), ⟨_, hc _ _ (valCs_at l i 1 m hx (by decide)), .inl ⟨rfl, none, 0, rfl, fun _ => rfl⟩, Nat.zero_le _⟩, ⟨none, 0, hc _ _ (valCs_at l i 2 m hx (by decide)), Nat.zero_le _, fun h => by cases h⟩, hm m (List.mem_of_getElem? hx)⟩
theorem fldCs_snoc (l : List Nat) (m : Nat) : fldCs l ++ fldC9 m = fldCs (l ++ [m]) := by simp [fldCs]
theorem valCs_snoc (l : List Nat) (m : Nat) : valCs l ++ valC9 m = valCs (l ++ [m]) := by simp [valCs]
theorem one_fld (m : Nat) : ∀ u ∈ fldC9 m, u.oneCell' = true := by
  intro u hu
  simp only [fldC9, List.mem_cons, List.not_mem_nil, or_false] at hu
  rcases hu with rfl | rfl | rfl | rfl <;> rfl
theorem one_val (m : Nat) : ∀ u ∈ valC9 m, u.oneCell' = true := by
  intro u hu
  simp only [valC9, List.mem_cons, List.not_mem_nil, or_false] at hu
  rcases hu with rfl | rfl | rfl <;> rfl
theorem app_ranZ9 (w w' : World) {ops : Array Oper} {rest : List Oper} {o : Oper} {a : Act} {Q : Exit → Act → World → Prop} (hgd : o.guard = none) (s x : Operand) (t u : TypeId) (ho : o.op = .call { callee := .builtin .append, args := #[s, x], argTypes := #[t, u] }) (vs vx v' : Value) (hs : a.eval s = vs) (hx : a.eval x = vx)
    (hr : ∀ ty, (Builtin.append_ #[t, u] ty #[vs, vx]).run Tryd.prog w = .ok v' w') (h : wpList Tryd.prog ops Q rest (a.put o.dst v') w') : wpList Tryd.prog ops Q (o :: rest) a w := by
  refine wpList_plain hgd fun K hK => ?_
  unfold Oper.wp execOp
  simp only [ho, resolve, invoke, builtin, Sem.run_bind, Sem.run_pure, Result.andThen_ok, List.map_toArray, List.map_cons, List.map_nil, hs, hx, hr]
  exact hK _ _ h
/-- One more value. -/
theorem val_more (w : World) (base k m : Nat) (l : List Nat) (v : Value) (hown : w.ownsRow base 102 3 v k (valCs (l.take k))) (hk : k < 6) (hm : l.take (k + 1) = l.take k ++ [m]) (hbase : base ≤ w.heap.size) : ∃ v' W', (∀ ty, (Builtin.append_ #[97, 97] ty #[v, .slice (some ⟨w.heap.size, 0, none⟩) 1 1]).run Tryd.prog (w.alloc (.cells #[.int .u64 (m : Int), .slice none 0 0, .slice none 0 0] 102)) = .ok v' W') ∧ W'.ownsRow base 102 3 v' (k + 1) (valCs (l.take (k + 1))) ∧ ∀ {B : Nat} {w0 : World}, B ≤ base → Below B w0 w → B ≤ w.heap.size → Below B w0 W' := by
  have := app_one9 97 102 _ 3 56 under_vals9 info_val9 rfl (by decide) (by decide) w base k v (valCs (l.take k)) (valC9 m) hown rfl (one_val m) (by omega) hbase
  rw [hm, ← valCs_snoc]
  exact this
end Go.Proofs.YtgoehohadnkpdaaDoor
