/-
  What is proved here: boot.Right tells whether a record may be; boot.Next what comes of it when a device begins; the document's own two answer the same. the document's numbers in four bytes, and its entry of a generation and a record. boot.numberFields makes the fields of an entry's numbers; entry.encode makes an entry's bytes.
  Conditions: the numbers are of 64 bits. those that each fact names. the record may be, the generation is at most two to the thirtieth; the variable fourBits holds the sixteen words.
-/
import Derived.Test.YtbdhkkdombdnkaaDoorJBootPure
import Derived.Test.YtbdhkkdombdnkaaDoorJHeldOps
import Derived.Test.YtbdhkkdombdnkaaDoorJSegKit
import Derived.Lib.MinMax
import Derived.Test.YtbdhkkdombdnkaaDoorJRefSeal
import Derived.Maps.AppendAt
namespace Go.Proofs.YtbdhkkdombdnkaaDoor
open Go.RowKit

def brL (b : BR) : Array Value := #[.int .i64 b.active, .int .i64 b.trial, .int .i64 b.tries, .int .i64 b.v0, .int .i64 b.v1]
abbrev brV (b : BR) : Value := .agg (brL b)
def oddB (n m : Int) : Bool := decide (n < 0) || decide (m < n)
set_option maxRecDepth 100000 in
theorem odd9_any (n m : Int) (w : World) : Calls Tryd.prog 45 #[.int .i64 n, .int .i64 m] w fun e w' => e = .returned (.bool (oddB n m)) ∧ w' = w := by
  unfold oddB
  by_cases h1 : n < 0
  · rw [decide_eq_true h1]
    go_enter Tryd.func45, Tryd.ntmps45
    go_wp2
    go_ret
    exact ⟨rfl, rfl⟩
  · by_cases h2 : m < n
    · rw [decide_eq_false h1, decide_eq_true h2]
      go_enter Tryd.func45, Tryd.ntmps45
      go_wp2
      go_ret
      exact ⟨rfl, rfl⟩
    · rw [decide_eq_false h1, decide_eq_false h2]
      go_enter Tryd.func45, Tryd.ntmps45
      go_wp2
      go_ret
      exact ⟨rfl, rfl⟩
theorem odd_iff (n m : Int) : oddB n m = false ↔ 0 ≤ n ∧ n ≤ m := by
  unfold oddB
  rw [Bool.or_eq_false_iff, decide_eq_false_iff_not, decide_eq_false_iff_not]
  omega
theorem odd_true {n m : Int} (h : oddB n m = true) : ¬ (0 ≤ n ∧ n ≤ m) := fun h2 => by rw [(odd_iff n m).2 h2] at h; cases h

set_option maxRecDepth 100000 in
set_option maxHeartbeats 1000000 in
theorem right9_any (b : BR) (w : World) : Calls Tryd.prog 25 #[brV b] w fun e w' => e = .returned (.bool (rightR b)) ∧ Below w.heap.size w w' := by
  have HO : Hid (∀ n m w, Calls Tryd.prog 45 #[.int .i64 n, .int .i64 m] w fun e w' => e = .returned (.bool (oddB n m)) ∧ w' = w) := odd9_any
  have hB := (Below.refl w.heap.size w).alloc (Nat.le_refl _) (.cells (brL b) 40)
  have HR : Hid (rightR b = decide b.ok) := rfl
  generalize rightR b = RB at *
  unfold BR.ok at HR
  obtain ⟨a, t, r, v0, v1⟩ := b
  simp only at HR
  unfold brV brL at *
  simp only at *
  cases o1 : oddB a 1 with
  | true =>
    obtain rfl : RB = false := by rw [HR.out]; exact decide_eq_false (fun h => odd_true o1 h.1)
    go_enter Tryd.func25, Tryd.ntmps25
    go_wp2_with (go_at_call 45; refine (HO.out _ _ _).mono ?_; rintro e w1 ⟨rfl, rfl⟩)
    go_ret
    exact ⟨rfl, hB⟩
  | false =>
    cases o2 : oddB r 15 with
    | true =>
      obtain rfl : RB = false := by rw [HR.out]; exact decide_eq_false (fun h => odd_true o2 h.2.1)
      go_enter Tryd.func25, Tryd.ntmps25
      go_wp2_with (go_at_call 45; refine (HO.out _ _ _).mono ?_; rintro e w1 ⟨rfl, rfl⟩)
      go_ret
      exact ⟨rfl, hB⟩
    | false =>
      cases o3 : oddB v0 1073741824 with
      | true =>
        obtain rfl : RB = false := by rw [HR.out]; exact decide_eq_false (fun h => odd_true o3 h.2.2.1)
        go_enter Tryd.func25, Tryd.ntmps25
        go_wp2_with (go_at_call 45; refine (HO.out _ _ _).mono ?_; rintro e w1 ⟨rfl, rfl⟩)
        go_ret
        exact ⟨rfl, hB⟩
      | false =>
        cases o4 : oddB v1 1073741824 with
        | true =>
          obtain rfl : RB = false := by rw [HR.out]; exact decide_eq_false (fun h => odd_true o4 h.2.2.2.1)
          go_enter Tryd.func25, Tryd.ntmps25
          go_wp2_with (go_at_call 45; refine (HO.out _ _ _).mono ?_; rintro e w1 ⟨rfl, rfl⟩)
          go_ret
          exact ⟨rfl, hB⟩
        | false =>
          have h1 := (odd_iff _ _).1 o1
          have h2 := (odd_iff _ _).1 o2
          have h3 := (odd_iff _ _).1 o3
          have h4 := (odd_iff _ _).1 o4
          by_cases ht : t = -1
          · subst ht
            have HR2 : Hid (RB = decide (r = 0)) := by show _ = _; rw [HR.out]; exact decide_eq_decide.2 ⟨fun h => by omega, fun h => ⟨h1, h2, h3, h4, .inl ⟨rfl, h⟩⟩⟩
            clear HR h1 h2 h3 h4
            go_enter Tryd.func25, Tryd.ntmps25
            go_wp2_with (go_at_call 45; refine (HO.out _ _ _).mono ?_; rintro e w1 ⟨rfl, rfl⟩)
            go_ret
            rw [HR2.out]
            exact ⟨rfl, hB⟩
          · have HR2 : Hid (RB = decide (t = 1 - a)) := by show _ = _; rw [HR.out]; exact decide_eq_decide.2 ⟨fun h => by omega, fun h => ⟨h1, h2, h3, h4, .inr ⟨ht, h⟩⟩⟩
            clear HR h2 h3 h4
            go_enter Tryd.func25, Tryd.ntmps25
            go_wp2_with (go_at_call 45; refine (HO.out _ _ _).mono ?_; rintro e w1 ⟨rfl, rfl⟩)
            go_ret
            rw [HR2.out]
            exact ⟨rfl, hB⟩
end Go.Proofs.YtbdhkkdombdnkaaDoor
namespace Go.Proofs.YtbdhkkdombdnkaaDoor
open Go.RowKit

theorem leN_num4 (n : Nat) : leN n 4 = num4 n := by
  simp [leN, num4, Nat.div_div_eq_div_mul]
set_option maxRecDepth 100000 in
theorem number9_any (n : Nat) (w : World) (hn : n < 4294967296) :
    Calls Tryd.prog 54 #[.int .i64 (n : Int)] w fun e w' => ∃ v, e = .returned v ∧ Own w' w.heap.size v (num4 n) ∧ Below w.heap.size w w' := by
  go_enter Tryd.func54, Tryd.ntmps54
  have ho := own_new7 w (num4 n) (by unfold maxLen; show 4 ≤ _; decide)
  have hb := (Below.refl w.heap.size w).alloc (Nat.le_refl _) (.cells ((num4 n).map v8).toArray 5)
  rw [num4_cells n hn] at ho hb
  go_wp2
  go_ret
  exact ⟨_, rfl, ho, hb⟩
set_option maxRecDepth 100000 in
theorem of9_any (x : Value) (bs : List UInt8) (w : World) (hS : Seg w x bs) (h4 : 4 ≤ bs.length) :
    Calls Tryd.prog 50 #[x] w fun e w' => e = .returned (.int .i64 (of4 bs : Int)) ∧ Below w.heap.size w w' := by
  obtain ⟨ab, cb, rfl⟩ := Seg.shapeD hS
  obtain ⟨b, off, rfl, hbc, hrow, hbl⟩ := hS.formD (by omega)
  have d : ∀ j, j < 4 → ∃ c : Int, w.cell? ⟨b, off + j, none⟩ = some (.int .u8 c) ∧ 0 ≤ c ∧ c < 256 ∧ ((bs.getD j 0).toNat : Int) = c := fun j hj => by
    have hl := (bs.getD j 0).toNat_lt
    refine ⟨((bs.getD j 0).toNat : Int), ?_, by omega, by omega, rfl⟩
    rw [hrow j (by omega)]
    simp [n8, show j < bs.length by omega]
  obtain ⟨c0, d0, a0, b0, e0⟩ := d 0 (by decide)
  obtain ⟨c1, d1, a1, b1, e1⟩ := d 1 (by decide)
  obtain ⟨c2, d2, a2, b2, e2⟩ := d 2 (by decide)
  obtain ⟨c3, d3, a3, b3, e3⟩ := d 3 (by decide)
  rw [Nat.add_zero] at d0
  have i0 := index7 b off bs.length cb 0 0 rfl (by omega)
  have i1 := index7 b off bs.length cb 1 1 rfl (by omega)
  have i2 := index7 b off bs.length cb 2 2 rfl (by omega)
  have i3 := index7 b off bs.length cb 3 3 rfl (by omega)
  have HO : Hid ((of4 bs : Int) = c0 + c1 * 256 + c2 * 65536 + c3 * 16777216) := by
    show _ = _
    unfold of4
    omega
  clear d e0 e1 e2 e3 hrow
  go_enter Tryd.func50, Tryd.ntmps50
  go_wp2_with fail
  go_still (by kernel_rfl)
  go_wp2
  go_ret
  rw [HO.out]
  refine ⟨?_, (Below.refl _ _).drew⟩
  show Ending.returned (.int .i64 (IntKind.i64.wrap (IntKind.i64.wrap (IntKind.i64.wrap (IntKind.i64.wrap c0 + IntKind.i64.wrap (IntKind.i64.wrap c1 * 256)) + IntKind.i64.wrap (IntKind.i64.wrap c2 * 65536)) + IntKind.i64.wrap (IntKind.i64.wrap c3 * 16777216)))) = _
  congr 2
  simp only [IntKind.wrap_i64]
  omega
end Go.Proofs.YtbdhkkdombdnkaaDoor
namespace Go.Proofs.YtbdhkkdombdnkaaDoor
open Go.RowKit

theorem app_ran9 (w w' : World) {ops : Array Oper} {rest : List Oper} {o : Oper} {a : Act} {Q : Exit → Act → World → Prop} (hgd : o.guard = none) (s x : Operand) (t : TypeId) (ho : o.op = .call { callee := .builtin .append, args := #[s, x], argTypes := #[t, t] }) (vs vx v' : Value) (hs : a.eval s = vs) (hx : a.eval x = vx)
    (hr : ∀ ty, (Builtin.append_ #[t, t] ty #[vs, vx]).run Tryd.prog w = .ok v' w') (h : wpList Tryd.prog ops Q rest (a.put o.dst v') w') : wpList Tryd.prog ops Q (o :: rest) a w := by
  refine wpList_plain hgd fun K hK => ?_
  unfold Oper.wp execOp
  simp only [ho, resolve, invoke, builtin, Sem.run_bind, Sem.run_pure, Result.andThen_ok, List.map_toArray, List.map_cons, List.map_nil, hs, hx, hr]
  exact hK _ _ h
theorem info_parts9 {t : TypeId} {z : Value} {n b : Nat} (h : (Tryd.prog.info? t).map (fun i => (i.zero, i.size, i.bytes)) = some (some z, n, b)) : ∃ i, Tryd.prog.info? t = some i ∧ i.zero = some z ∧ i.size = n ∧ i.bytes = b := by
  cases hi : Tryd.prog.info? t with
  | none => rw [hi] at h; cases h
  | some i =>
    rw [hi] at h
    simp only [Option.map_some, Option.some.injEq, Prod.mk.injEq] at h
    exact ⟨i, rfl, h.1, h.2.1, h.2.2⟩
theorem info_fld9 : (Tryd.prog.info? 131).map (fun i => (i.zero, i.size, i.bytes)) = some (some (.agg #[.int .i64 0, .int .u64 0, .int .u64 0, .slice none 0 0]), 4, 48) := by kernel_rfl
theorem info_val9 : (Tryd.prog.info? 114).map (fun i => (i.zero, i.size, i.bytes)) = some (some (.agg #[.int .u64 0, .slice none 0 0, .slice none 0 0]), 3, 56) := by kernel_rfl
theorem under_flds9 : Tryd.prog.underlying 116 = some (.slice 131) := by kernel_rfl
theorem under_vals9 : Tryd.prog.underlying 110 = some (.slice 114) := by kernel_rfl
def fldC9 (m : Nat) : List Value := [.int .i64 1, .int .u64 0, .int .u64 (m : Int), .slice none 0 0]
def valC9 (n : Nat) : List Value := [.int .u64 (n : Int), .slice none 0 0, .slice none 0 0]
def fldCs (l : List Nat) : List Value := l.flatMap fldC9
def valCs (l : List Nat) : List Value := l.flatMap valC9
theorem app_one9 (t e : TypeId) (z : Value) (size bytes : Nat) (ht : Tryd.prog.underlying t = some (.slice e)) (hz : (Tryd.prog.info? e).map (fun i => (i.zero, i.size, i.bytes)) = some (some z, size, bytes)) (hzs : z.cells.size = size) (hsz : 0 < size) (hby : bytes ≤ 100) (w : World) (base n : Nat) (v : Value) (xs news : List Value) (hown : w.ownsRow base e size v n xs) (hl : news.length = size) (h1 : ∀ u ∈ news, u.oneCell' = true) (hn : n ≤ 1000000) (hbase : base ≤ w.heap.size) :
    ∃ v' W', (∀ ty, (Builtin.append_ #[t, t] ty #[v, .slice (some ⟨w.heap.size, 0, none⟩) 1 1]).run Tryd.prog (w.alloc (.cells news.toArray e)) = .ok v' W') ∧ W'.ownsRow base e size v' (n + 1) (xs ++ news) ∧ ∀ {B : Nat} {w0 : World}, B ≤ base → Below B w0 w → B ≤ w.heap.size → Below B w0 W' := by
  have hb := (Below.refl w.heap.size w).alloc (Nat.le_refl _) (.cells news.toArray e)
  have hk := Blk.new w e news.toArray
  have h' : (w.alloc (.cells news.toArray e)).ownsRow base e size v n xs := World.ownsRow.alloc hown _
  obtain ⟨i0, hi, hz0, hz1, hz2⟩ := info_parts9 hz
  obtain ⟨v', w', h0, h2, h3, _, _⟩ := run_append_own_at (P := Tryd.prog) _ base t t e i0 z size bytes ht hi hz0 hz1 hz2 hzs hsz v n xs h' ⟨w.heap.size, 0, none⟩ 1 1 news (by omega) (fun j y hy => by
    rw [Addr.add_mid, Nat.zero_add]
    exact hk.cell (by simpa using hy)) h1 (by unfold maxLen; omega) (by
      have : (n + 1) * bytes ≤ (n + 1) * 100 := Nat.mul_le_mul_left _ hby
      omega) (Nat.le_trans hbase hb.size)
  exact ⟨v', w', fun ty => h0, h2, fun {B w0} hB hw hs => below_grown (hw.trans (hb.mono hs)) h3 (Nat.le_trans hs hb.size) (fun q hq => Nat.le_trans hB (World.ownsRow.lt h' q hq).1)⟩
def bootM : List Nat := [1073741824, 1, 2, 15, 1073741824, 1073741824]
theorem fldCs_at : ∀ (l : List Nat) (i j m : Nat), l[i]? = some m → j < 4 → (fldCs l)[i * 4 + j]? = (fldC9 m)[j]?
  | [], _, _, _, h, _ => by cases h
  | x :: l, 0, j, m, h, hj => by
    cases h
    show (fldC9 x ++ fldCs l)[0 * 4 + j]? = _
    rw [Nat.zero_mul, Nat.zero_add, List.getElem?_append_left (by exact hj)]
  | x :: l, i + 1, j, m, h, hj => by
    show (fldC9 x ++ fldCs l)[(i + 1) * 4 + j]? = _
    rw [List.getElem?_append_right (by show 4 ≤ _; omega), show (i + 1) * 4 + j - (fldC9 x).length = i * 4 + j by show (i + 1) * 4 + j - 4 = _; omega]
    exact fldCs_at l i j m h hj
theorem valCs_at : ∀ (l : List Nat) (i j m : Nat), l[i]? = some m → j < 3 → (valCs l)[i * 3 + j]? = (valC9 m)[j]?
  | [], _, _, _, h, _ => by cases h
  | x :: l, 0, j, m, h, hj => by
    cases h
    show (valC9 x ++ valCs l)[0 * 3 + j]? = _
    rw [Nat.zero_mul, Nat.zero_add, List.getElem?_append_left (by exact hj)]
  | x :: l, i + 1, j, m, h, hj => by
    show (valC9 x ++ valCs l)[(i + 1) * 3 + j]? = _
    rw [List.getElem?_append_right (by show 3 ≤ _; omega), show (i + 1) * 3 + j - (valC9 x).length = i * 3 + j by show (i + 1) * 3 + j - 3 = _; omega]
    exact valCs_at l i j m h hj
theorem flds9_of {w : World} {base : Nat} {v : Value} (l : List Nat) (h0 : 0 < l.length) (hm : ∀ x ∈ l, x < 18446744073709551616) (hl : l.length ≤ maxLen) (h : w.ownsRow base 131 4 v l.length (fldCs l)) : Flds w 1 v (l.map numF) := by
  obtain ⟨g, cap, he, _, hg⟩ := World.ownsRow.form h h0
  have hb : l.length ≤ cap := by
    rcases h.2 with ⟨h1, _⟩ | ⟨g', cap', cur, h1, _, _, h4, _⟩
    · rw [he] at h1; cases h1
    · rw [he] at h1; cases h1; exact h4
  subst he
  have hc : ∀ (j : Nat) u, (fldCs l)[j]? = some u → w.cell? ⟨g, j, none⟩ = some u := fun j u hu => by
    have := World.ownsRow.cells h (g := g) rfl j u hu
    rwa [Addr.add_mid, Nat.zero_add] at this
  refine ⟨some ⟨g, 0, none⟩, cap, by rw [List.length_map], by rw [List.length_map]; exact hl, fun _ => ⟨g, 0, rfl, hg, by rw [List.length_map]; exact hb, fun i f hf => ?_⟩⟩
  rw [List.getElem?_map] at hf
  cases hx : l[i]? with
  | none => rw [hx] at hf; cases hf
  | some m =>
    rw [hx] at hf
    cases hf
    rw [Nat.zero_add]
    refine ⟨hc _ _ (fldCs_at l i 0 m hx (by decide)), hc _ _ (fldCs_at l i 1 m hx (by decide)), hc _ _ (fldCs_at l i 2 m hx (by decide)), ⟨_, hc _ _ (fldCs_at l i 3 m hx (by decide)), ⟨rfl, rfl⟩⟩, by show (0 : Nat) < _; decide, hm m (List.mem_of_getElem? hx)⟩
theorem vals9_of {w : World} {base : Nat} {v : Value} (l : List Nat) (h0 : 0 < l.length) (hm : ∀ x ∈ l, x < 18446744073709551616) (hl : l.length ≤ maxLen) (h : w.ownsRow base 114 3 v l.length (valCs l)) : Vals w 1 v (l.map numV) := by
  obtain ⟨g, cap, he, _, hg⟩ := World.ownsRow.form h h0
  have hb : l.length ≤ cap := by
    rcases h.2 with ⟨h1, _⟩ | ⟨g', cap', cur, h1, _, _, h4, _⟩
    · rw [he] at h1; cases h1
    · rw [he] at h1; cases h1; exact h4
  subst he
  have hc : ∀ (j : Nat) u, (valCs l)[j]? = some u → w.cell? ⟨g, j, none⟩ = some u := fun j u hu => by
    have := World.ownsRow.cells h (g := g) rfl j u hu
    rwa [Addr.add_mid, Nat.zero_add] at this
  refine ⟨some ⟨g, 0, none⟩, cap, by rw [List.length_map], by rw [List.length_map]; exact hl, fun _ => ⟨g, 0, rfl, hg, by rw [List.length_map]; exact hb, fun i f hf => ?_⟩⟩
  rw [List.getElem?_map] at hf
  cases hx : l[i]? with
  | none => rw [hx] at hf; cases hf
  | some m =>
    rw [hx] at hf
    cases hf
    rw [Nat.zero_add]
    refine ⟨hc _ _ (valCs_at l i 0 m hx (by decide)), ⟨_, hc _ _ (valCs_at l i 1 m hx (by decide)), .inl ⟨rfl, none, 0, rfl, fun _ => rfl⟩, Nat.zero_le _⟩, ⟨none, 0, hc _ _ (valCs_at l i 2 m hx (by decide)), Nat.zero_le _, fun h => by cases h⟩, hm m (List.mem_of_getElem? hx)⟩
theorem fldCs_snoc (l : List Nat) (m : Nat) : fldCs l ++ fldC9 m = fldCs (l ++ [m]) := by simp [fldCs]
theorem valCs_snoc (l : List Nat) (m : Nat) : valCs l ++ valC9 m = valCs (l ++ [m]) := by simp [valCs]
theorem one_fld (m : Nat) : ∀ u ∈ fldC9 m, u.oneCell' = true := by
  intro u hu
  simp only [fldC9, List.mem_cons, List.not_mem_nil, or_false] at hu
  rcases hu with rfl | rfl | rfl | rfl <;> rfl
theorem one_val (m : Nat) : ∀ u ∈ valC9 m, u.oneCell' = true := by
  intro u hu
  simp only [valC9, List.mem_cons, List.not_mem_nil, or_false] at hu
  rcases hu with rfl | rfl | rfl <;> rfl
/-- One more field. -/
theorem fld_more (w : World) (base k m : Nat) (v : Value) (hown : w.ownsRow base 131 4 v k (fldCs (bootM.take k))) (hk : k < 6) (hm : bootM.take (k + 1) = bootM.take k ++ [m]) (hbase : base ≤ w.heap.size) : ∃ v' W', (∀ ty, (Builtin.append_ #[116, 116] ty #[v, .slice (some ⟨w.heap.size, 0, none⟩) 1 1]).run Tryd.prog (w.alloc (.cells #[.int .i64 1, .int .u64 0, .int .u64 (m : Int), .slice none 0 0] 131)) = .ok v' W') ∧ W'.ownsRow base 131 4 v' (k + 1) (fldCs (bootM.take (k + 1))) ∧ ∀ {B : Nat} {w0 : World}, B ≤ base → Below B w0 w → B ≤ w.heap.size → Below B w0 W' := by
  have := app_one9 116 131 _ 4 48 under_flds9 info_fld9 rfl (by decide) (by decide) w base k v (fldCs (bootM.take k)) (fldC9 m) hown rfl (one_fld m) (by omega) hbase
  rw [hm, ← fldCs_snoc]
  exact this

set_option maxRecDepth 100000 in
set_option maxHeartbeats 1000000 in
theorem fields9_any (w : World) : Calls Tryd.prog 63 #[] w fun e w' => ∃ v, e = .returned v ∧ Flds w' 1 v bootF ∧ Below w.heap.size w w' := by
  go_enter Tryd.func63, Tryd.ntmps63
  go_wp2
  go_loopw [1, 5] (fun v i wr => ∃ k : Nat, k ≤ 6 ∧ i = .int .i64 k ∧ wr.ownsRow w.heap.size 131 4 v k (fldCs (bootM.take k)) ∧ Below w.heap.size w wr) (fun _ i _ => 6 - (intOf i).toNat)
  case atStart => exact ⟨0, Nat.zero_le _, rfl, ⟨rfl, .inl ⟨rfl, rfl⟩⟩, Below.refl _ _⟩
  case round =>
    obtain ⟨k, hk, rfl, hown, hB⟩ := hrel
    by_cases hlt : k < 6
    · have hcases : k = 0 ∨ k = 1 ∨ k = 2 ∨ k = 3 ∨ k = 4 ∨ k = 5 := by omega
      rcases hcases with rfl | rfl | rfl | rfl | rfl | rfl
      · obtain ⟨v', W', hr, ho, hb⟩ := fld_more wr w.heap.size 0 1073741824 _ hown (by decide) rfl hB.size
        have HB := hb (Nat.le_refl _) hB hB.size
        have HO : Hid (W'.ownsRow w.heap.size 131 4 v' (0 + 1) (fldCs (bootM.take (0 + 1)))) := ho
        have hix : ∀ w, (Instr.index 129 (.agg #[.int .u64 1073741824, .int .u64 1, .int .u64 2, .int .u64 15, .int .u64 1073741824, .int .u64 1073741824]) (.int .i64 0)).run Tryd.prog w = .ok (.int .u64 1073741824) w := fun w => by kernel_rfl
        clear ho hb hown
        go_wp2_with (at_builtin; refine app_ran9 _ W' rfl _ _ 116 rfl _ _ v' rfl rfl hr ?_)
        go_roundw
        case rel => exact ⟨1, by decide, rfl, HO.out, HB⟩
        case measure => simp [intOf]
      · obtain ⟨v', W', hr, ho, hb⟩ := fld_more wr w.heap.size 1 1 _ hown (by decide) rfl hB.size
        have HB := hb (Nat.le_refl _) hB hB.size
        have HO : Hid (W'.ownsRow w.heap.size 131 4 v' (1 + 1) (fldCs (bootM.take (1 + 1)))) := ho
        have hix : ∀ w, (Instr.index 129 (.agg #[.int .u64 1073741824, .int .u64 1, .int .u64 2, .int .u64 15, .int .u64 1073741824, .int .u64 1073741824]) (.int .i64 1)).run Tryd.prog w = .ok (.int .u64 1) w := fun w => by kernel_rfl
        clear ho hb hown
        go_wp2_with (at_builtin; refine app_ran9 _ W' rfl _ _ 116 rfl _ _ v' rfl rfl hr ?_)
        go_roundw
        case rel => exact ⟨2, by decide, rfl, HO.out, HB⟩
        case measure => simp [intOf]
      · obtain ⟨v', W', hr, ho, hb⟩ := fld_more wr w.heap.size 2 2 _ hown (by decide) rfl hB.size
        have HB := hb (Nat.le_refl _) hB hB.size
        have HO : Hid (W'.ownsRow w.heap.size 131 4 v' (2 + 1) (fldCs (bootM.take (2 + 1)))) := ho
        have hix : ∀ w, (Instr.index 129 (.agg #[.int .u64 1073741824, .int .u64 1, .int .u64 2, .int .u64 15, .int .u64 1073741824, .int .u64 1073741824]) (.int .i64 2)).run Tryd.prog w = .ok (.int .u64 2) w := fun w => by kernel_rfl
        clear ho hb hown
        go_wp2_with (at_builtin; refine app_ran9 _ W' rfl _ _ 116 rfl _ _ v' rfl rfl hr ?_)
        go_roundw
        case rel => exact ⟨3, by decide, rfl, HO.out, HB⟩
        case measure => simp [intOf]
      · obtain ⟨v', W', hr, ho, hb⟩ := fld_more wr w.heap.size 3 15 _ hown (by decide) rfl hB.size
        have HB := hb (Nat.le_refl _) hB hB.size
        have HO : Hid (W'.ownsRow w.heap.size 131 4 v' (3 + 1) (fldCs (bootM.take (3 + 1)))) := ho
        have hix : ∀ w, (Instr.index 129 (.agg #[.int .u64 1073741824, .int .u64 1, .int .u64 2, .int .u64 15, .int .u64 1073741824, .int .u64 1073741824]) (.int .i64 3)).run Tryd.prog w = .ok (.int .u64 15) w := fun w => by kernel_rfl
        clear ho hb hown
        go_wp2_with (at_builtin; refine app_ran9 _ W' rfl _ _ 116 rfl _ _ v' rfl rfl hr ?_)
        go_roundw
        case rel => exact ⟨4, by decide, rfl, HO.out, HB⟩
        case measure => simp [intOf]
      · obtain ⟨v', W', hr, ho, hb⟩ := fld_more wr w.heap.size 4 1073741824 _ hown (by decide) rfl hB.size
        have HB := hb (Nat.le_refl _) hB hB.size
        have HO : Hid (W'.ownsRow w.heap.size 131 4 v' (4 + 1) (fldCs (bootM.take (4 + 1)))) := ho
        have hix : ∀ w, (Instr.index 129 (.agg #[.int .u64 1073741824, .int .u64 1, .int .u64 2, .int .u64 15, .int .u64 1073741824, .int .u64 1073741824]) (.int .i64 4)).run Tryd.prog w = .ok (.int .u64 1073741824) w := fun w => by kernel_rfl
        clear ho hb hown
        go_wp2_with (at_builtin; refine app_ran9 _ W' rfl _ _ 116 rfl _ _ v' rfl rfl hr ?_)
        go_roundw
        case rel => exact ⟨5, by decide, rfl, HO.out, HB⟩
        case measure => simp [intOf]
      · obtain ⟨v', W', hr, ho, hb⟩ := fld_more wr w.heap.size 5 1073741824 _ hown (by decide) rfl hB.size
        have HB := hb (Nat.le_refl _) hB hB.size
        have HO : Hid (W'.ownsRow w.heap.size 131 4 v' (5 + 1) (fldCs (bootM.take (5 + 1)))) := ho
        have hix : ∀ w, (Instr.index 129 (.agg #[.int .u64 1073741824, .int .u64 1, .int .u64 2, .int .u64 15, .int .u64 1073741824, .int .u64 1073741824]) (.int .i64 5)).run Tryd.prog w = .ok (.int .u64 1073741824) w := fun w => by kernel_rfl
        clear ho hb hown
        go_wp2_with (at_builtin; refine app_ran9 _ W' rfl _ _ 116 rfl _ _ v' rfl rfl hr ?_)
        go_roundw
        case rel => exact ⟨6, by decide, rfl, HO.out, HB⟩
        case measure => simp [intOf]
    · obtain rfl : k = 6 := by omega
      have HF := flds9_of (w := wr) bootM (by decide) (by decide) (by decide) hown
      clear hown hlt hk
      go_wp2
      go_ret
      exact ⟨_, rfl, HF, hB⟩
end Go.Proofs.YtbdhkkdombdnkaaDoor
