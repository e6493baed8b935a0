/-
  What is proved here: where fields and records lie in memory; that they lie there still in a world that has grown; and that arguments of these types that came in lie so. bits.Len64 and pack.width: in how many bytes a number stands; the document's width is the same. pack.appendNumber puts a number behind bytes, its lowest byte first, and pack.amount tells what a field's bounds speak of. plain facts on the bytes of records: parts of a list, and that a record has at most as many bytes as its fields tell. pack.appendValue and pack.appendRecord put behind bytes what the plain functions tell, or answer that it does not fit.
  Conditions: those that each fact names. none. the fields may be; fields and values lie in memory below the bytes.
-/
import Derived.Test.YtbegphfideopoaaGreatJPackPure
import Derived.Test.YtbegphfideopoaaGreatJShaPure
import Derived.Deep.Slices
import Derived.Test.YtbegphfideopoaaGreatJWalPure
namespace Go.Proofs.YtbegphfideopoaaGreat
open Go.RowKit

/-- A field lies here; F: how fields within lie. -/
def FAt (w : World) (F : Value → List Fld → Prop) (b off : Nat) (f : Fld) : Prop :=
  w.cell? ⟨b, off, none⟩ = some (.int .i64 f.kind) ∧ w.cell? ⟨b, off + 1, none⟩ = some (.int .u64 (f.min : Int)) ∧ w.cell? ⟨b, off + 2, none⟩ = some (.int .u64 (f.max : Int)) ∧
    (∃ o, w.cell? ⟨b, off + 3, none⟩ = some o ∧ F o f.of) ∧ f.min < 18446744073709551616 ∧ f.max < 18446744073709551616
/-- A slice of fields. -/
def Flds (w : World) : Nat → Value → List Fld → Prop
  | 0, v, l => v = .slice none 0 0 ∧ l = []
  | n + 1, v, l => ∃ ao c, v = .slice ao l.length c ∧ l.length ≤ maxLen ∧ (0 < l.length → ∃ b off, ao = some ⟨b, off, none⟩ ∧ b < w.heap.size ∧ l.length ≤ c ∧ ∀ i f, l[i]? = some f → FAt w (Flds w n) b (off + i * 4) f)
/-- A value lies here; V: how records within lie. -/
def VAt (w : World) (V : Value → List Val → Prop) (b off : Nat) (x : Val) : Prop :=
  w.cell? ⟨b, off, none⟩ = some (.int .u64 (x.n : Int)) ∧ (∃ bv, w.cell? ⟨b, off + 1, none⟩ = some bv ∧ Seg w bv x.b ∧ x.b.length ≤ maxLen) ∧
    (∃ ao c, w.cell? ⟨b, off + 2, none⟩ = some (.slice ao x.l.length c) ∧ x.l.length ≤ maxLen ∧ (0 < x.l.length → ∃ b off, ao = some ⟨b, off, none⟩ ∧ b < w.heap.size ∧ x.l.length ≤ c ∧ ∀ k r, x.l[k]? = some r → ∃ rv, w.cell? ⟨b, off + k, none⟩ = some rv ∧ V rv r)) ∧ x.n < 18446744073709551616
/-- A slice of values. -/
def Vals (w : World) : Nat → Value → List Val → Prop
  | 0, v, l => v = .slice none 0 0 ∧ l = []
  | n + 1, v, l => ∃ ao c, v = .slice ao l.length c ∧ l.length ≤ maxLen ∧ (0 < l.length → ∃ b off, ao = some ⟨b, off, none⟩ ∧ b < w.heap.size ∧ l.length ≤ c ∧ ∀ i x, l[i]? = some x → VAt w (Vals w n) b (off + i * 3) x)

/-- All that lies in a world lies in the other. -/
def Keeps (w w' : World) : Prop := w.heap.size ≤ w'.heap.size ∧ ∀ b o, b < w.heap.size → w'.cell? ⟨b, o, none⟩ = w.cell? ⟨b, o, none⟩
theorem Keeps.refl (w : World) : Keeps w w := ⟨Nat.le_refl _, fun _ _ _ => rfl⟩
theorem Keeps.trans {a b c : World} (h : Keeps a b) (k : Keeps b c) : Keeps a c := ⟨Nat.le_trans h.1 k.1, fun x o hx => (k.2 x o (Nat.lt_of_lt_of_le hx h.1)).trans (h.2 x o hx)⟩
theorem Keeps.of_below {w w' : World} {B : Nat} (h : Below B w w') (hB : w.heap.size ≤ B) : Keeps w w' := by
  have := bcell (h.mono hB)
  exact ⟨h.size, fun b o hb => this.1 b o hb⟩
theorem Keeps.drewN (w : World) (n : Nat) : Keeps w (w.drewN n) := ⟨Nat.le_refl _, fun _ _ _ => rfl⟩
theorem Keeps.drew (w : World) : Keeps w w.drew := ⟨Nat.le_refl _, fun _ _ _ => rfl⟩
theorem Keeps.grown {w w' : World} (h : w.grownBy w' none) : Keeps w w' := Keeps.of_below (below_grown (Below.refl w.heap.size w) h (Nat.le_refl _) (fun k hk => by cases hk)) (Nat.le_refl _)
theorem cell_lt {w : World} {b o : Nat} {v : Value} (h : w.cell? ⟨b, o, none⟩ = some v) : b < w.heap.size := by
  have := block_lt_of_cell h
  simpa using this
theorem Keeps.cell {w w' : World} (h : Keeps w w') {b o : Nat} {v : Value} (hc : w.cell? ⟨b, o, none⟩ = some v) : w'.cell? ⟨b, o, none⟩ = some v := (h.2 b o (cell_lt hc)).trans hc
theorem Seg.keeps {w w' : World} {v : Value} {bs : List UInt8} (h : Seg w v bs) (k : Keeps w w') : Seg w' v bs := by
  rcases h with h | ⟨b, off, c, h1, h2, h3, h4⟩
  · exact .inl h
  · exact .inr ⟨b, off, c, h1, h2, fun j hj => k.cell (h3 j hj), Nat.lt_of_lt_of_le h4 k.1⟩
theorem FAt.keeps {w w' : World} {F F' : Value → List Fld → Prop} {b off : Nat} {f : Fld} (h : FAt w F b off f) (k : Keeps w w') (hF : ∀ v l, F v l → F' v l) : FAt w' F' b off f := by
  obtain ⟨h1, h2, h3, ⟨o, h4, h5⟩, h6⟩ := h
  exact ⟨k.cell h1, k.cell h2, k.cell h3, ⟨o, k.cell h4, hF _ _ h5⟩, h6⟩
theorem Flds.keeps {w w' : World} (k : Keeps w w') : ∀ (n : Nat) (v : Value) (l : List Fld), Flds w n v l → Flds w' n v l
  | 0, _, _, h => h
  | n + 1, v, l, ⟨ao, c, h1, h2, h3⟩ => ⟨ao, c, h1, h2, fun h0 => by
      obtain ⟨b, off, h4, h5, h6, h7⟩ := h3 h0
      exact ⟨b, off, h4, Nat.lt_of_lt_of_le h5 k.1, h6, fun i f hf => (h7 i f hf).keeps k (Flds.keeps k n)⟩⟩
theorem VAt.keeps {w w' : World} {V V' : Value → List Val → Prop} {b off : Nat} {x : Val} (h : VAt w V b off x) (k : Keeps w w') (hV : ∀ v l, V v l → V' v l) : VAt w' V' b off x := by
  obtain ⟨h1, ⟨bv, h2, h3, h3'⟩, ⟨ao, c, h4, h5, h6⟩, h7⟩ := h
  refine ⟨k.cell h1, ⟨bv, k.cell h2, h3.keeps k, h3'⟩, ⟨ao, c, k.cell h4, h5, fun h0 => ?_⟩, h7⟩
  obtain ⟨b, off, h8, h9, h10, h11⟩ := h6 h0
  exact ⟨b, off, h8, Nat.lt_of_lt_of_le h9 k.1, h10, fun j r hr => by
    obtain ⟨rv, h12, h13⟩ := h11 j r hr
    exact ⟨rv, k.cell h12, hV _ _ h13⟩⟩
theorem Vals.keeps {w w' : World} (k : Keeps w w') : ∀ (n : Nat) (v : Value) (l : List Val), Vals w n v l → Vals w' n v l
  | 0, _, _, h => h
  | n + 1, v, l, ⟨ao, c, h1, h2, h3⟩ => ⟨ao, c, h1, h2, fun h0 => by
      obtain ⟨b, off, h4, h5, h6, h7⟩ := h3 h0
      exact ⟨b, off, h4, Nat.lt_of_lt_of_le h5 k.1, h6, fun i f hf => (h7 i f hf).keeps k (Vals.keeps k n)⟩⟩
/-- The form of a slice of fields. -/
theorem Flds.form {w : World} {n : Nat} {v : Value} {l : List Fld} (h : Flds w n v l) : ∃ ao c, v = .slice ao l.length c ∧ l.length ≤ maxLen ∧ (0 < l.length → ∃ b off, ao = some ⟨b, off, none⟩ ∧ b < w.heap.size ∧ l.length ≤ c ∧ ∀ i f, l[i]? = some f → FAt w (Flds w (n - 1)) b (off + i * 4) f) := by
  cases n with
  | zero => obtain ⟨rfl, rfl⟩ := h; exact ⟨none, 0, rfl, Nat.zero_le _, fun h => by cases h⟩
  | succ n => exact h
theorem Vals.form {w : World} {n : Nat} {v : Value} {l : List Val} (h : Vals w n v l) : ∃ ao c, v = .slice ao l.length c ∧ l.length ≤ maxLen ∧ (0 < l.length → ∃ b off, ao = some ⟨b, off, none⟩ ∧ b < w.heap.size ∧ l.length ≤ c ∧ ∀ i x, l[i]? = some x → VAt w (Vals w (n - 1)) b (off + i * 3) x) := by
  cases n with
  | zero => obtain ⟨rfl, rfl⟩ := h; exact ⟨none, 0, rfl, Nat.zero_le _, fun h => by cases h⟩
  | succ n => exact h
end Go.Proofs.YtbegphfideopoaaGreat
namespace Go.Proofs.YtbegphfideopoaaGreat
open Go.RowKit

/-- What a table of bit lengths of bytes tells. -/
def tabB (s : ByteArray) : Bool := (List.range 256).all fun n => match s.data[n]? with
  | some t => decide (t.toNat ≤ 8) && (decide (n = 0) || decide (1 ≤ t.toNat)) && (decide (n ≠ 0) || decide (t.toNat = 0))
  | none => false
theorem tab_at (s : ByteArray) (h : tabB s = true) (n : Nat) (hn : n < 256) : ∃ t : UInt8, s.data[n]? = some t ∧ t.toNat ≤ 8 ∧ (1 ≤ n → 1 ≤ t.toNat) ∧ (n = 0 → t.toNat = 0) := by
  have := List.all_eq_true.1 h n (by simpa using hn)
  revert this
  cases s.data[n]? with
  | none => intro h; cases h
  | some t =>
    intro h
    simp at h
    exact ⟨t, rfl, h.1.1, fun h1 => by rcases h.1.2 with h2 | h2 <;> omega, fun h1 => by rcases h.2 with h2 | h2 <;> omega⟩
theorem index_tab {w : World} {ops : Array Oper} {rest : List Oper} {o : Oper} {a : Act} {Q : Exit → Act → World → Prop} (hgd : o.guard = none) (ts : TypeId) (x : Operand) (s : ByteArray) (ho : o.op = .index ts (.const (.string s)) x) (ht : Tryz.prog.underlying ts = some .string) (hs : tabB s = true)
    (z : Int) (hx : a.eval x = .int .u8 z) (h0 : 0 ≤ z) (h1 : z < 256)
    (hK : ∀ t : Nat, t ≤ 8 → (1 ≤ z → 1 ≤ t) → (z = 0 → t = 0) → wpList Tryz.prog ops Q rest (a.put o.dst (.int .u8 (t : Int))) w) : wpList Tryz.prog ops Q (o :: rest) a w := by
  obtain ⟨t, h2, h3, h4, h5⟩ := tab_at s hs z.toNat (by omega)
  obtain ⟨hlt, hget⟩ := Array.getElem?_eq_some_iff.1 h2
  have he : a.eval (.const (.string s)) = .string s := rfl
  have hsz : z.toNat < s.size := hlt
  have hrun := run_index_string w ts s .u8 z ht
  rw [dif_pos ⟨h0, by omega⟩] at hrun
  have hv : (s[z.toNat]'(by omega)).toNat = t.toNat := congrArg UInt8.toNat hget
  rw [hv] at hrun
  refine wpList_plain hgd fun _ hK' => ?_
  unfold Oper.wp execOp
  simp only [ho, hx, he, hrun, Sem.run_bind, Result.andThen_ok]
  exact hK' _ _ (hK t.toNat h3 (fun h => h4 (by omega)) (fun h => h5 (by omega)))

set_option maxRecDepth 100000 in
set_option maxHeartbeats 1000000 in
theorem len64_any (n : Nat) (hn : n < 18446744073709551616) (w : World) :
    Calls Tryz.prog 127 #[.int .u64 (n : Int)] w fun e w' => w' = w ∧ ∃ L : Nat, e = .returned (.int .i64 (L : Int)) ∧ L ≤ 64 ∧ max 1 ((L + 7) / 8) = wid n := by
  by_cases hc0 : 4294967296 ≤ n
  · by_cases hc1 : 65536 ≤ n / 4294967296
    · by_cases hc2 : 256 ≤ n / 4294967296 / 65536
      · have i1 : (4294967296 : Int) ≤ (n : Int) := by omega
        obtain ⟨q1, e1⟩ : ∃ q1, q1 = n / 4294967296 := ⟨_, rfl⟩
        have f1 : (n : Int) / 4294967296 = (q1 : Int) := by omega
        have i2 : (65536 : Int) ≤ (q1 : Int) := by omega
        obtain ⟨q2, e2⟩ : ∃ q2, q2 = q1 / 65536 := ⟨_, rfl⟩
        have f2 : (q1 : Int) / 65536 = (q2 : Int) := by omega
        have i3 : (256 : Int) ≤ (q2 : Int) := by omega
        obtain ⟨q3, e3⟩ : ∃ q3, q3 = q2 / 256 := ⟨_, rfl⟩
        have f3 : (q2 : Int) / 256 = (q3 : Int) := by omega
        have hz : q3 < 256 := by omega
        have hz1 : 1 ≤ q3 := by omega
        have HW : Hid (∀ t : Nat, t ≤ 8 → (1 ≤ (q3 : Int) → 1 ≤ t) → ((q3 : Int) = 0 → t = 0) → max 1 ((56 + t + 7) / 8) = wid n) := fun t h1 h2 h3 => by
          unfold wid
          repeat' split
          all_goals omega
        clear e1
        clear e2
        clear e3
        go_enter Tryz.func127, Tryz.ntmps127
        go_wp2_with (refine index_tab rfl 9 _ _ rfl Tryz.underlying9 ?_ _ rfl ?_ ?_ ?_)
        · decide +kernel
        all_goals try omega
        intro t ht1 ht2 ht3
        have HT := HW.out t ht1 (fun h => ht2 (by omega)) (fun h => ht3 (by omega))
        have HT' : Hid (max 1 ((_ + t + 7) / 8) = wid n) := HT
        clear HT ht2 ht3
        go_wp2
        go_ret
        exact ⟨rfl, 56 + t, by go_num, by omega, HT'.out⟩
      · have i1 : (4294967296 : Int) ≤ (n : Int) := by omega
        obtain ⟨q1, e1⟩ : ∃ q1, q1 = n / 4294967296 := ⟨_, rfl⟩
        have f1 : (n : Int) / 4294967296 = (q1 : Int) := by omega
        have i2 : (65536 : Int) ≤ (q1 : Int) := by omega
        obtain ⟨q2, e2⟩ : ∃ q2, q2 = q1 / 65536 := ⟨_, rfl⟩
        have f2 : (q1 : Int) / 65536 = (q2 : Int) := by omega
        have i3 : ¬ (256 : Int) ≤ (q2 : Int) := by omega
        have hz : q2 < 256 := by omega
        have hz1 : 1 ≤ q2 := by omega
        have HW : Hid (∀ t : Nat, t ≤ 8 → (1 ≤ (q2 : Int) → 1 ≤ t) → ((q2 : Int) = 0 → t = 0) → max 1 ((48 + t + 7) / 8) = wid n) := fun t h1 h2 h3 => by
          unfold wid
          repeat' split
          all_goals omega
        clear e1
        clear e2
        go_enter Tryz.func127, Tryz.ntmps127
        go_wp2_with (refine index_tab rfl 9 _ _ rfl Tryz.underlying9 ?_ _ rfl ?_ ?_ ?_)
        · decide +kernel
        all_goals try omega
        intro t ht1 ht2 ht3
        have HT := HW.out t ht1 (fun h => ht2 (by omega)) (fun h => ht3 (by omega))
        have HT' : Hid (max 1 ((_ + t + 7) / 8) = wid n) := HT
        clear HT ht2 ht3
        go_wp2
        go_ret
        exact ⟨rfl, 48 + t, by go_num, by omega, HT'.out⟩
    · by_cases hc2 : 256 ≤ n / 4294967296
      · have i1 : (4294967296 : Int) ≤ (n : Int) := by omega
        obtain ⟨q1, e1⟩ : ∃ q1, q1 = n / 4294967296 := ⟨_, rfl⟩
        have f1 : (n : Int) / 4294967296 = (q1 : Int) := by omega
        have i2 : ¬ (65536 : Int) ≤ (q1 : Int) := by omega
        have i3 : (256 : Int) ≤ (q1 : Int) := by omega
        obtain ⟨q3, e3⟩ : ∃ q3, q3 = q1 / 256 := ⟨_, rfl⟩
        have f3 : (q1 : Int) / 256 = (q3 : Int) := by omega
        have hz : q3 < 256 := by omega
        have hz1 : 1 ≤ q3 := by omega
        have HW : Hid (∀ t : Nat, t ≤ 8 → (1 ≤ (q3 : Int) → 1 ≤ t) → ((q3 : Int) = 0 → t = 0) → max 1 ((40 + t + 7) / 8) = wid n) := fun t h1 h2 h3 => by
          unfold wid
          repeat' split
          all_goals omega
        clear e1
        clear e3
        go_enter Tryz.func127, Tryz.ntmps127
        go_wp2_with (refine index_tab rfl 9 _ _ rfl Tryz.underlying9 ?_ _ rfl ?_ ?_ ?_)
        · decide +kernel
        all_goals try omega
        intro t ht1 ht2 ht3
        have HT := HW.out t ht1 (fun h => ht2 (by omega)) (fun h => ht3 (by omega))
        have HT' : Hid (max 1 ((_ + t + 7) / 8) = wid n) := HT
        clear HT ht2 ht3
        go_wp2
        go_ret
        exact ⟨rfl, 40 + t, by go_num, by omega, HT'.out⟩
      · have i1 : (4294967296 : Int) ≤ (n : Int) := by omega
        obtain ⟨q1, e1⟩ : ∃ q1, q1 = n / 4294967296 := ⟨_, rfl⟩
        have f1 : (n : Int) / 4294967296 = (q1 : Int) := by omega
        have i2 : ¬ (65536 : Int) ≤ (q1 : Int) := by omega
        have i3 : ¬ (256 : Int) ≤ (q1 : Int) := by omega
        have hz : q1 < 256 := by omega
        have hz1 : 1 ≤ q1 := by omega
        have HW : Hid (∀ t : Nat, t ≤ 8 → (1 ≤ (q1 : Int) → 1 ≤ t) → ((q1 : Int) = 0 → t = 0) → max 1 ((32 + t + 7) / 8) = wid n) := fun t h1 h2 h3 => by
          unfold wid
          repeat' split
          all_goals omega
        clear e1
        go_enter Tryz.func127, Tryz.ntmps127
        go_wp2_with (refine index_tab rfl 9 _ _ rfl Tryz.underlying9 ?_ _ rfl ?_ ?_ ?_)
        · decide +kernel
        all_goals try omega
        intro t ht1 ht2 ht3
        have HT := HW.out t ht1 (fun h => ht2 (by omega)) (fun h => ht3 (by omega))
        have HT' : Hid (max 1 ((_ + t + 7) / 8) = wid n) := HT
        clear HT ht2 ht3
        go_wp2
        go_ret
        exact ⟨rfl, 32 + t, by go_num, by omega, HT'.out⟩
  · by_cases hc1 : 65536 ≤ n
    · by_cases hc2 : 256 ≤ n / 65536
      · have i1 : ¬ (4294967296 : Int) ≤ (n : Int) := by omega
        have i2 : (65536 : Int) ≤ (n : Int) := by omega
        obtain ⟨q2, e2⟩ : ∃ q2, q2 = n / 65536 := ⟨_, rfl⟩
        have f2 : (n : Int) / 65536 = (q2 : Int) := by omega
        have i3 : (256 : Int) ≤ (q2 : Int) := by omega
        obtain ⟨q3, e3⟩ : ∃ q3, q3 = q2 / 256 := ⟨_, rfl⟩
        have f3 : (q2 : Int) / 256 = (q3 : Int) := by omega
        have hz : q3 < 256 := by omega
        have hz1 : 1 ≤ q3 := by omega
        have HW : Hid (∀ t : Nat, t ≤ 8 → (1 ≤ (q3 : Int) → 1 ≤ t) → ((q3 : Int) = 0 → t = 0) → max 1 ((24 + t + 7) / 8) = wid n) := fun t h1 h2 h3 => by
          unfold wid
          repeat' split
          all_goals omega
        clear e2
        clear e3
        go_enter Tryz.func127, Tryz.ntmps127
        go_wp2_with (refine index_tab rfl 9 _ _ rfl Tryz.underlying9 ?_ _ rfl ?_ ?_ ?_)
        · decide +kernel
        all_goals try omega
        intro t ht1 ht2 ht3
        have HT := HW.out t ht1 (fun h => ht2 (by omega)) (fun h => ht3 (by omega))
        have HT' : Hid (max 1 ((_ + t + 7) / 8) = wid n) := HT
        clear HT ht2 ht3
        go_wp2
        go_ret
        exact ⟨rfl, 24 + t, by go_num, by omega, HT'.out⟩
      · have i1 : ¬ (4294967296 : Int) ≤ (n : Int) := by omega
        have i2 : (65536 : Int) ≤ (n : Int) := by omega
        obtain ⟨q2, e2⟩ : ∃ q2, q2 = n / 65536 := ⟨_, rfl⟩
        have f2 : (n : Int) / 65536 = (q2 : Int) := by omega
        have i3 : ¬ (256 : Int) ≤ (q2 : Int) := by omega
        have hz : q2 < 256 := by omega
        have hz1 : 1 ≤ q2 := by omega
        have HW : Hid (∀ t : Nat, t ≤ 8 → (1 ≤ (q2 : Int) → 1 ≤ t) → ((q2 : Int) = 0 → t = 0) → max 1 ((16 + t + 7) / 8) = wid n) := fun t h1 h2 h3 => by
          unfold wid
          repeat' split
          all_goals omega
        clear e2
        go_enter Tryz.func127, Tryz.ntmps127
        go_wp2_with (refine index_tab rfl 9 _ _ rfl Tryz.underlying9 ?_ _ rfl ?_ ?_ ?_)
        · decide +kernel
        all_goals try omega
        intro t ht1 ht2 ht3
        have HT := HW.out t ht1 (fun h => ht2 (by omega)) (fun h => ht3 (by omega))
        have HT' : Hid (max 1 ((_ + t + 7) / 8) = wid n) := HT
        clear HT ht2 ht3
        go_wp2
        go_ret
        exact ⟨rfl, 16 + t, by go_num, by omega, HT'.out⟩
    · by_cases hc2 : 256 ≤ n
      · have i1 : ¬ (4294967296 : Int) ≤ (n : Int) := by omega
        have i2 : ¬ (65536 : Int) ≤ (n : Int) := by omega
        have i3 : (256 : Int) ≤ (n : Int) := by omega
        obtain ⟨q3, e3⟩ : ∃ q3, q3 = n / 256 := ⟨_, rfl⟩
        have f3 : (n : Int) / 256 = (q3 : Int) := by omega
        have hz : q3 < 256 := by omega
        have hz1 : 1 ≤ q3 := by omega
        have HW : Hid (∀ t : Nat, t ≤ 8 → (1 ≤ (q3 : Int) → 1 ≤ t) → ((q3 : Int) = 0 → t = 0) → max 1 ((8 + t + 7) / 8) = wid n) := fun t h1 h2 h3 => by
          unfold wid
          repeat' split
          all_goals omega
        clear e3
        go_enter Tryz.func127, Tryz.ntmps127
        go_wp2_with (refine index_tab rfl 9 _ _ rfl Tryz.underlying9 ?_ _ rfl ?_ ?_ ?_)
        · decide +kernel
        all_goals try omega
        intro t ht1 ht2 ht3
        have HT := HW.out t ht1 (fun h => ht2 (by omega)) (fun h => ht3 (by omega))
        have HT' : Hid (max 1 ((_ + t + 7) / 8) = wid n) := HT
        clear HT ht2 ht3
        go_wp2
        go_ret
        exact ⟨rfl, 8 + t, by go_num, by omega, HT'.out⟩
      · have i1 : ¬ (4294967296 : Int) ≤ (n : Int) := by omega
        have i2 : ¬ (65536 : Int) ≤ (n : Int) := by omega
        have i3 : ¬ (256 : Int) ≤ (n : Int) := by omega
        have hz : n < 256 := by omega
        have HW : Hid (∀ t : Nat, t ≤ 8 → (1 ≤ (n : Int) → 1 ≤ t) → ((n : Int) = 0 → t = 0) → max 1 ((0 + t + 7) / 8) = wid n) := fun t h1 h2 h3 => by
          unfold wid
          repeat' split
          all_goals omega
        go_enter Tryz.func127, Tryz.ntmps127
        go_wp2_with (refine index_tab rfl 9 _ _ rfl Tryz.underlying9 ?_ _ rfl ?_ ?_ ?_)
        · decide +kernel
        all_goals try omega
        intro t ht1 ht2 ht3
        have HT := HW.out t ht1 (fun h => ht2 (by omega)) (fun h => ht3 (by omega))
        have HT' : Hid (max 1 ((_ + t + 7) / 8) = wid n) := HT
        clear HT ht2 ht3
        go_wp2
        go_ret
        exact ⟨rfl, 0 + t, by rw [Nat.zero_add]; rfl, by omega, HT'.out⟩



/-- A field as a value; o: that of the fields within. -/
def fldV (f : Fld) (o : Value) : Value := .agg #[.int .i64 f.kind, .int .u64 (f.min : Int), .int .u64 (f.max : Int), o]
set_option maxRecDepth 100000 in
theorem width_any (f : Fld) (o : Value) (hm : f.min ≤ f.max) (hx : f.max < 18446744073709551616) (w : World) :
    Calls Tryz.prog 138 #[fldV f o] w fun e w' => e = .returned (.int .i64 (wid (f.max - f.min) : Int)) ∧ Below w.heap.size w w' := by
  unfold fldV
  have HL : Hid (∀ W, Calls Tryz.prog 127 #[.int .u64 ((f.max - f.min : Nat) : Int)] W fun e w' => w' = W ∧ ∃ L : Nat, e = .returned (.int .i64 (L : Int)) ∧ L ≤ 64 ∧ max 1 ((L + 7) / 8) = wid (f.max - f.min)) := fun W => len64_any _ (by omega) W
  have hd : (f.max : Int) - (f.min : Int) = ((f.max - f.min : Nat) : Int) := by omega
  generalize f.kind = fk
  have hx' : f.max - f.min < 18446744073709551616 := by omega
  go_enter Tryz.func138, Tryz.ntmps138
  go_wp2_with (go_at_call 127; refine (HL.out _).mono ?_; rintro e w1 ⟨rfl, L, rfl, hL, hW⟩)
  all_goals
    go_ret
    refine ⟨?_, (Below.refl _ _).alloc (Nat.le_refl _) _⟩
    rw [← hW]
    show Ending.returned (Value.int .i64 _) = _
    congr 2
    omega
end Go.Proofs.YtbegphfideopoaaGreat
namespace Go.Proofs.YtbegphfideopoaaGreat
open Go.RowKit

theorem leN_take (n k j : Nat) (h : j < k) : (leN n k).take (j + 1) = (leN n k).take j ++ [UInt8.ofNat (n / 256 ^ j % 256)] := by
  induction k generalizing n j with
  | zero => omega
  | succ k ih =>
    cases j with
    | zero => simp [leN]
    | succ j =>
      simp only [leN, List.take_succ_cons, List.cons_append]
      rw [ih (n / 256) j (by omega), Nat.div_div_eq_div_mul, Nat.pow_succ, Nat.mul_comm 256]
theorem leN_all (n k : Nat) : (leN n k).take k = leN n k := by rw [List.take_of_length_le (by rw [leN_len]; omega)]

/-- Bytes of one's own have grown: the world but for their block is as it was. -/
structure Grew (w : World) (base : Nat) (v : Value) (w' : World) (v' : Value) (bs : List UInt8) : Prop where
  own : Own w' base v' bs
  grown : w.grownBy w' v.ownBlock
  row : v'.ownBlock = v.ownBlock ∨ ∃ q, v'.ownBlock = some q ∧ w.heap.size ≤ q
theorem Grew.refl {w : World} {base : Nat} {v : Value} {bs : List UInt8} (h : Own w base v bs) : Grew w base v w v bs := ⟨h, World.grownBy.refl _ _, .inl rfl⟩
theorem Grew.trans {w w1 w2 : World} {base : Nat} {v v1 v2 : Value} {b1 b2 : List UInt8} (h : Grew w base v w1 v1 b1) (k : Grew w1 base v1 w2 v2 b2) : Grew w base v w2 v2 b2 := by
  refine ⟨k.own, ⟨k.grown.os.trans h.grown.os, k.grown.tape.trans h.grown.tape, k.grown.output.trans h.grown.output, Nat.le_trans h.grown.size k.grown.size, fun i hi hne => ?_⟩, ?_⟩
  · have h1 := h.grown.block i hi hne
    refine (k.grown.block i (Nat.lt_of_lt_of_le hi h.grown.size) ?_).trans h1
    rcases h.row with e | ⟨q, e, hq⟩
    · rw [e]; exact hne
    · rw [e]; intro h2; have := Option.some.inj h2; omega
  · rcases k.row with e | ⟨q, e, hq⟩
    · rw [e]; exact h.row
    · exact .inr ⟨q, e, Nat.le_trans h.grown.size hq⟩
theorem Grew.after {w w1 w2 : World} {base B : Nat} {v v1 : Value} {b1 : List UInt8} (h : Grew w base v w1 v1 b1) (k : Below B w1 w2) (hB : w1.heap.size ≤ B) : Grew w base v w2 v1 b1 :=
  h.trans ⟨h.own.below k hB, ⟨k.os, k.tape, k.output, k.size, fun i hi _ => k.block i (Nat.lt_of_lt_of_le hi hB)⟩, .inl rfl⟩
theorem Grew.below {w w' : World} {base : Nat} {v v' : Value} {bs bs' : List UInt8} (h : Grew w base v w' v' bs') (ho : Own w base v bs) (hb : base ≤ w.heap.size) : Below base w w' :=
  below_grown (Below.refl base w) h.grown hb (fun k hk => (ho.blocks k hk).1)
theorem Grew.blk {w w' : World} {base g : Nat} {t : TypeId} {arr : Array Value} {v v' : Value} {bs' : List UInt8} (h : Grew w base v w' v' bs') (hg : Blk w g t arr) (hne : v.ownBlock ≠ some g) : Blk w' g t arr ∧ v'.ownBlock ≠ some g := by
  refine ⟨hg.grown h.grown (fun e => hne e.symm), ?_⟩
  rcases h.row with e | ⟨q, e, hq⟩
  · rw [e]; exact hne
  · rw [e]; intro h2; have := Option.some.inj h2; have := hg.lt; omega
theorem Grew.size {w w' : World} {base : Nat} {v v' : Value} {bs' : List UInt8} (h : Grew w base v w' v' bs') : w.heap.size ≤ w'.heap.size := h.grown.size
theorem Grew.app {w w' : World} {base : Nat} {v v' : Value} {bs nw : List UInt8} (h1 : Own w' base v' (bs ++ nw)) (h2 : w.grownBy w' v.ownBlock) (h3 : v'.ownBlock = v.ownBlock ∨ v'.ownBlock = some w.heap.size) : Grew w base v w' v' (bs ++ nw) :=
  ⟨h1, h2, h3.imp id (fun e => ⟨_, e, Nat.le_refl _⟩)⟩
theorem byte_form (n j : Nat) : IntKind.u8.wrap ((n / 256 ^ j : Nat) : Int) = n8 (UInt8.ofNat (n / 256 ^ j % 256)) := by
  rw [wrap_u8_nat]
  show _ = ((UInt8.ofNat (n / 256 ^ j % 256)).toNat : Int)
  have : (UInt8.ofNat (n / 256 ^ j % 256)).toNat = n / 256 ^ j % 256 % 256 := by simp
  rw [this, Nat.mod_mod]

set_option maxRecDepth 100000 in
set_option maxHeartbeats 1000000 in
theorem appNum_any (v : Value) (bs : List UInt8) (base n k : Nat) (w : World) (hO : Own w base v bs) (hbase : base ≤ w.heap.size) (hk : k ≤ 8) (hn : n < 18446744073709551616) (hb : bs.length ≤ 100000000) :
    Calls Tryz.prog 137 #[v, .int .u64 (n : Int), .int .i64 (k : Int)] w fun e w' => ∃ v', e = .returned v' ∧ Grew w base v w' v' (bs ++ leN n k) := by
  have HN : Hid (n < 18446744073709551616) := hn
  clear hn
  go_enter Tryz.func137, Tryz.ntmps137
  go_wp2
  go_loopw [0, 1, 8] (fun u x i wr => ∃ j m : Nat, j ≤ k ∧ i = .int .i64 (j : Int) ∧ x = .int .u64 (m : Int) ∧ m = n / 256 ^ j ∧ Grew w base v wr u (bs ++ (leN n k).take j)) (fun _ _ i _ => k - (intOf i).toNat)
  case atStart => exact ⟨0, n, Nat.zero_le _, rfl, rfl, by simp, by simpa using Grew.refl hO⟩
  case round =>
    obtain ⟨j, m, hj, rfl, rfl, hm, hG⟩ := hrel
    have s1 := hG.size
    by_cases hlt : j < k
    · have HT : Hid (bs ++ (leN n k).take (j + 1) = (bs ++ (leN n k).take j) ++ [UInt8.ofNat (n / 256 ^ j % 256)]) := by show _ = _; rw [leN_take n k j hlt, List.append_assoc]
      have hbf := byte_form n j
      rw [← hm] at hbf HT
      have HM : Hid (m / 256 = n / 256 ^ (j + 1)) := by show _ = _; rw [hm, Nat.div_div_eq_div_mul, Nat.pow_succ]
      have hl2 : (bs ++ (leN n k).take j).length ≤ 100000008 := by simp [leN_len]; omega
      clear hm
      obtain ⟨y, hy⟩ : ∃ y, y = UInt8.ofNat (m % 256) := ⟨_, rfl⟩
      rw [← hy] at hbf HT
      clear hy
      generalize bs ++ (leN n k).take j = BJ at *
      have i1 : (j : Int) < (k : Int) := by omega
      go_wp2_with (at_builtin; refine app_own _ rfl (.tmp 10) (.tmp 13) rfl base _ BJ rfl (hG.own.alloc _) _ [y] rfl (by exact Seg.of_row (row_one _ y _) rfl (by simp) (by simp)) (by simp only [List.length_singleton]; omega) (by simp; omega) ?_; intro v2 w2 ho2 hg2 hv2)
      go_roundw
      case rel =>
        refine ⟨j + 1, m / 256, hlt, by go_num, by go_num, HM.out, ?_⟩
        rw [HT.out]
        exact (hG.after ((Below.refl wr.heap.size wr).alloc (Nat.le_refl _) _) (Nat.le_refl _)).trans (Grew.app ho2 hg2 hv2)
      case measure => simp [intOf]; omega
    · have HJ : Hid ((leN n k).take j = leN n k) := by show _ = _; rw [show j = k by omega]; exact leN_all n k
      have i1 : ¬ (j : Int) < (k : Int) := by omega
      go_wp2
      go_ret
      exact ⟨_, rfl, by rw [← HJ.out]; exact hG⟩

theorem ret_pair {a : Nat} {b c : Bool} (h : b = c) : Ending.returned (.tuple #[.int .u64 (a : Int), .bool b]) = .returned (.tuple #[.int .u64 (a : Int), .bool c]) := by rw [h]
/-- A value as a value of the model; bv, lv: those of its bytes and its records. -/
def valV (x : Val) (bv lv : Value) : Value := .agg #[.int .u64 (x.n : Int), bv, lv]
set_option maxRecDepth 100000 in
set_option maxHeartbeats 1000000 in
theorem amount_any (f : Fld) (o : Value) (x : Val) (ab : Option Addr) (cb : Nat) (al : Option Addr) (cl : Nat) (w : World) (hob : ∃ ao n c, o = .slice ao n c) (hb : x.b.length ≤ maxLen) (hl : x.l.length ≤ maxLen) :
    Calls Tryz.prog 136 #[fldV f o, valV x (.slice ab x.b.length cb) (.slice al x.l.length cl)] w fun e w' => ∃ y : Nat, e = .returned (.tuple #[.int .u64 (y : Int), .bool (amountOf f x).isSome]) ∧ (∀ m, amountOf f x = some m → y = m) ∧ Below w.heap.size w w' := by
  obtain ⟨ao, on, oc, rfl⟩ := hob
  unfold fldV valV
  unfold maxLen at hb hl
  have HA : Hid (amountOf f x = if f.kind = 1 then (if x.b.length = 0 ∧ x.l.length = 0 then some x.n else none)
    else if f.kind = 2 then (if x.n = 0 ∧ x.l.length = 0 then some x.b.length else none)
    else (if x.n = 0 ∧ x.b.length = 0 then some x.l.length else none)) := rfl
  generalize amountOf f x = AM at HA
  generalize x.n = xn at *
  generalize x.b.length = bl at *
  generalize x.l.length = ll at *
  have z1 : ((xn : Int) == 0) = decide (xn = 0) := by by_cases h : xn = 0 <;> simp [h]
  have z2 : ((bl : Int) == 0) = decide (bl = 0) := by by_cases h : bl = 0 <;> simp [h]
  have z3 : ((ll : Int) == 0) = decide (ll = 0) := by by_cases h : ll = 0 <;> simp [h]
  by_cases hk1 : f.kind = 1
  · have j1 : (f.kind == 1) = true := by simpa using hk1
    rw [if_pos hk1] at HA
    clear hk1
    go_enter Tryz.func136, Tryz.ntmps136
    go_wp2
    go_region
    go_wp2
    all_goals
      go_ret2
      refine ⟨_, ret_pair ?_, fun m hm => ?_, (((Below.refl w.heap.size w).alloc (Nat.le_refl _) _).alloc (by simp) _).drew⟩
      · rw [HA.out]
        split <;> simp_all
      · rw [HA.out] at hm
        split at hm
        · have := Option.some.inj hm
          omega
        · cases hm
  have j1 : (f.kind == 1) = false := by simpa using hk1
  rw [if_neg hk1] at HA
  by_cases hk2 : f.kind = 2
  · have j2 : (f.kind == 2) = true := by simpa using hk2
    rw [if_pos hk2] at HA
    clear hk1 hk2
    go_enter Tryz.func136, Tryz.ntmps136
    go_wp2
    go_region
    go_wp2
    all_goals
      go_ret2
      refine ⟨_, ret_pair ?_, fun m hm => ?_, (((Below.refl w.heap.size w).alloc (Nat.le_refl _) _).alloc (by simp) _).drew⟩
      · rw [HA.out]
        split <;> simp_all
      · rw [HA.out] at hm
        split at hm
        · have := Option.some.inj hm
          omega
        · cases hm
  have j2 : (f.kind == 2) = false := by simpa using hk2
  rw [if_neg hk2] at HA
  clear hk1 hk2
  go_enter Tryz.func136, Tryz.ntmps136
  go_wp2
  go_region
  go_wp2
  all_goals
    go_ret2
    refine ⟨_, ret_pair ?_, fun m hm => ?_, (((Below.refl w.heap.size w).alloc (Nat.le_refl _) _).alloc (by simp) _).drew⟩
    · rw [HA.out]
      split <;> simp_all
    · rw [HA.out] at hm
      split at hm
      · have := Option.some.inj hm
        omega
      · cases hm
end Go.Proofs.YtbegphfideopoaaGreat
namespace Go.Proofs.YtbegphfideopoaaGreat

theorem catO_append (a b : List (Option (List UInt8))) : catO (a ++ b) = match catO a, catO b with
    | some x, some y => some (x ++ y)
    | _, _ => none := by
  induction a with
  | nil => simp only [List.nil_append, catO]; cases catO b <;> simp
  | cons f a ih =>
    cases f with
    | none => simp [catO]
    | some x =>
      simp only [List.cons_append, catO, ih]
      cases catO a with
      | none => simp
      | some y =>
        cases catO b with
        | none => simp
        | some z => simp
theorem catO_snoc (l : List (Option (List UInt8))) (I : Nat) (p q : List UInt8) (h : l[I]? = some (some q)) (hp : catO (l.take I) = some p) : catO (l.take (I + 1)) = some (p ++ q) := by
  rw [List.take_add_one, h, catO_append, hp]
  simp [catO]
theorem catO_none (l : List (Option (List UInt8))) (I : Nat) (h : l[I]? = some none) : catO l = none := by
  have hs : l = l.take I ++ (none :: l.drop (I + 1)) := by
    obtain ⟨h1, h2⟩ := List.getElem?_eq_some_iff.1 h
    rw [← h2, List.getElem_cons_drop, List.take_append_drop]
  rw [hs, catO_append]
  cases catO (l.take I) <;> rfl
theorem catO_len (l : List (Option (List UInt8))) (k : Nat) (h : ∀ q, some q ∈ l → q.length ≤ k) : ∀ p, catO l = some p → p.length ≤ l.length * k := by
  induction l with
  | nil => intro p hp; simp [catO] at hp; subst hp; simp
  | cons f l ih =>
    intro p hp
    cases f with
    | none => simp [catO] at hp
    | some q =>
      simp only [catO] at hp
      obtain ⟨r, hr, rfl⟩ := Option.map_eq_some_iff.1 hp
      have h1 := ih (fun q hq => h q (by simp [hq])) r hr
      have h2 := h q (by simp)
      simp [Nat.add_mul]
      omega

/-- What fields that may be are. -/
theorem mostOne_min {M : List Fld → Option Nat} {f : Fld} {a : Nat} (h : mostOne M f = some a) : f.min ≤ f.max ∧ f.max ≤ 65536 ∨ f.kind = 1 ∧ f.min ≤ f.max := by
  unfold mostOne at h
  split at h
  · cases h
  split at h
  · cases h
  rename_i h1 h2
  by_cases hk : f.kind = 1
  · exact .inr ⟨hk, by omega⟩
  · exact .inl ⟨by omega, by simp [hk] at h2; omega⟩
theorem mostOne_le' {M : List Fld → Option Nat} {f : Fld} {a : Nat} (h : mostOne M f = some a) : f.min ≤ f.max := by
  rcases mostOne_min h with h | h
  · exact h.1
  · exact h.2
theorem mostOne_of {M : List Fld → Option Nat} {f : Fld} {a : Nat} (h : mostOne M f = some a) (h1 : f.kind ≠ 1) (h2 : f.kind ≠ 2) : f.kind = 3 ∧ ∃ k, M f.of = some k ∧ a = wid (f.max - f.min) + f.max * k := by
  unfold mostOne at h
  split at h
  · cases h
  split at h
  · cases h
  split at h
  · rename_i hk
    obtain ⟨k, hk2, rfl⟩ := Option.map_eq_some_iff.1 h
    exact ⟨hk, k, hk2, rfl⟩
  · cases h
theorem mostOne_ge {M : List Fld → Option Nat} {f : Fld} {a : Nat} (h : mostOne M f = some a) : wid (f.max - f.min) ≤ a ∧ (f.kind = 2 → wid (f.max - f.min) + f.max ≤ a) := by
  unfold mostOne at h
  split at h
  · cases h
  split at h
  · cases h
  split at h
  · split at h
    · cases h
      rename_i hk _
      exact ⟨Nat.le_refl _, fun h2 => by omega⟩
    · cases h
  split at h
  · split at h
    · cases h; exact ⟨by omega, fun _ => Nat.le_refl _⟩
    · cases h
  split at h
  · obtain ⟨k, _, rfl⟩ := Option.map_eq_some_iff.1 h
    exact ⟨by omega, fun h2 => by omega⟩
  · cases h
/-- What a value that may fit has. -/
theorem amountOf_facts {f : Fld} {x : Val} {n : Nat} (h : amountOf f x = some n) : (f.kind = 1 → x.b.length = 0 ∧ x.l.length = 0 ∧ n = x.n) ∧ (f.kind = 2 → x.n = 0 ∧ x.l.length = 0 ∧ n = x.b.length) ∧ (f.kind ≠ 1 → f.kind ≠ 2 → x.n = 0 ∧ x.b.length = 0 ∧ n = x.l.length) := by
  unfold amountOf at h
  by_cases h1 : f.kind = 1
  · rw [if_pos h1] at h
    split at h
    · rename_i hh
      cases h
      exact ⟨fun _ => ⟨hh.1, hh.2, rfl⟩, fun h2 => by omega, fun h2 => absurd h1 h2⟩
    · cases h
  · rw [if_neg h1] at h
    by_cases h2 : f.kind = 2
    · rw [if_pos h2] at h
      split at h
      · rename_i hh
        cases h
        exact ⟨fun h3 => absurd h3 h1, fun _ => ⟨hh.1, hh.2, rfl⟩, fun _ h3 => absurd h2 h3⟩
      · cases h
    · rw [if_neg h2] at h
      split at h
      · rename_i hh
        cases h
        exact ⟨fun h3 => absurd h3 h1, fun h3 => absurd h3 h2, fun _ _ => ⟨hh.1, hh.2, rfl⟩⟩
      · cases h
/-- Before the records: what is put down, and how much room the records have. -/
theorem room_one {M : List Fld → Option Nat} {f : Fld} {x : Val} {a n : Nat} (h : mostOne M f = some a) (hn : amountOf f x = some n) (hx : n ≤ f.max) :
    wid (f.max - f.min) + x.b.length ≤ a ∧ (0 < x.l.length → ∃ k, M f.of = some k ∧ wid (f.max - f.min) + x.b.length + x.l.length * k ≤ a) := by
  obtain ⟨a1, a2, a3⟩ := amountOf_facts hn
  obtain ⟨g1, g2⟩ := mostOne_ge h
  by_cases h1 : f.kind = 1
  · obtain ⟨e1, e2, _⟩ := a1 h1
    exact ⟨by omega, fun h => by omega⟩
  by_cases h2 : f.kind = 2
  · obtain ⟨e1, e2, e3⟩ := a2 h2
    have := g2 h2
    exact ⟨by omega, fun h => by omega⟩
  obtain ⟨e1, e2, e3⟩ := a3 h1 h2
  obtain ⟨_, k, hk, rfl⟩ := mostOne_of h h1 h2
  refine ⟨by omega, fun _ => ⟨k, hk, ?_⟩⟩
  have := Nat.mul_le_mul_right k (show x.l.length ≤ f.max by omega)
  omega
theorem encOne_len {M : List Fld → Option Nat} {E : List Fld → List Val → Option (List UInt8)} {f : Fld} {x : Val} {a : Nat} {nb : List UInt8} (h : mostOne M f = some a) (hE : ∀ l m v q, M l = some m → E l v = some q → q.length ≤ m) (he : encOne E f x = some nb) : nb.length ≤ a := by
  unfold encOne at he
  split at he
  · cases he
  · rename_i n hn
    split at he
    · cases he
    · rename_i hb
      obtain ⟨r, hr, rfl⟩ := Option.map_eq_some_iff.1 he
      obtain ⟨r1, r2⟩ := room_one h hn (by omega)
      simp only [List.length_append, leN_len]
      rcases Nat.eq_zero_or_pos x.l.length with h0 | h0
      · have : x.l = [] := List.length_eq_zero_iff.1 h0
        rw [this] at hr
        simp [catO] at hr
        subst hr
        simp; omega
      · obtain ⟨k, hk, hle⟩ := r2 h0
        have := catO_len _ k (fun q hq => by
          obtain ⟨v, _, hv⟩ := List.mem_map.1 hq
          exact hE _ _ _ _ hk hv) r hr
        rw [List.length_map] at this
        omega
theorem zip_len {M : List Fld → Option Nat} {E : List Fld → List Val → Option (List UInt8)} (hE : ∀ l m v q, M l = some m → E l v = some q → q.length ≤ m) : ∀ (l : List Fld) (v : List Val) (S : Nat) (p : List UInt8), mostSum M l = some S → catO (List.zipWith (encOne E) l v) = some p → p.length ≤ S
  | [], v, S, p, hS, hp => by simp [catO] at hp; subst hp; simp
  | f :: l, [], S, p, hS, hp => by simp [catO] at hp; subst hp; simp
  | f :: l, x :: v, S, p, hS, hp => by
    rw [List.zipWith_cons_cons] at hp
    unfold mostSum at hS
    cases hm : mostOne M f with
    | none => rw [hm] at hS; cases hS
    | some a =>
      rw [hm] at hS
      obtain ⟨S', hS', rfl⟩ := Option.map_eq_some_iff.1 hS
      cases he : encOne E f x with
      | none => rw [he] at hp; simp [catO] at hp
      | some q =>
        rw [he] at hp
        simp only [catO] at hp
        obtain ⟨r, hr, rfl⟩ := Option.map_eq_some_iff.1 hp
        have h1 := encOne_len hm hE he
        have h2 := zip_len hE l v S' r hS' hr
        simp; omega
theorem mostL_succ {r : Nat} {l : List Fld} {m : Nat} (h : mostL (r + 1) l = some m) : mostSum (mostL r) l = some m ∧ 1 ≤ l.length ∧ l.length ≤ 16 ∧ m ≤ 1048576 := by
  have hm := mostL_le h
  unfold mostL at h
  split at h
  · cases h
  · split at h
    · cases h
    · rename_i n hn
      split at h
      · cases h
      · cases h
        exact ⟨hn, by omega, by omega, hm⟩
theorem encL_len : ∀ (r : Nat) (l : List Fld) (m : Nat) (v : List Val) (q : List UInt8), mostL r l = some m → encL r l v = some q → q.length ≤ m
  | 0, _, _, _, _, h, _ => by simp [mostL] at h
  | r + 1, l, m, v, q, h, he => by
    obtain ⟨hS, _⟩ := mostL_succ h
    unfold encL at he
    split at he
    · exact zip_len (fun l m v q h1 h2 => encL_len r l m v q h1 h2) l v m q hS he
    · cases he
end Go.Proofs.YtbegphfideopoaaGreat
namespace Go.Proofs.YtbegphfideopoaaGreat
open Go.RowKit

theorem Blk.range' {w : World} {g : Nat} {t : TypeId} {arr : Array Value} (h : Blk w g t arr) : w.rangeAt g 0 arr.toList := fun j v hv => by rw [Nat.zero_add]; exact h.cell (by simpa using hv)
theorem exec_load1 {a : Act} {o : Oper} {w : World} (ty : TypeId) (x : Operand) (ho : o.op = .load ty x) (hag : ∀ w, (isAgg ty).run Tryz.prog w = .ok false w)
    (b off : Nat) (hx : a.eval x = .pointer (some ⟨b, off, none⟩)) (v : Value) (hc : w.cell? ⟨b, off, none⟩ = some v) : (execOp a.eval o).run Tryz.prog w = .ok (.value v) w := by
  unfold execOp
  simp [ho, hx, Instr.loadAt, Instr.sureAddr, loadVar, hag, hc]
theorem exec_three {a : Act} {o : Oper} {w : World} (f : FuncId) (x y z : Operand) (ts : Array TypeId) (ho : o.op = .call { callee := .value (.func f), args := #[x, y, z], argTypes := ts }) (u v t : Value) (hx : a.eval x = u) (hy : a.eval y = v) (hz : a.eval z = t) (hc : ∀ args w, (callFunc f args).run Tryz.prog w = .ok (.enter f args) w) : (execOp a.eval o).run Tryz.prog w = .ok (.enter f #[u, v, t]) w := by
  have he : a.eval (.func f) = .func (.func f) #[] #[] := rfl
  unfold execOp
  simp [ho, resolve, invoke, Deferred.ofValue, he, hx, hy, hz, hc]
theorem exec_sub {a : Act} {o : Oper} {w : World} (t : TypeId) (x y : Operand) (ho : o.op = .binOp .sub t x y t) (m n : Int) (hx : a.eval x = .int .u64 m) (hy : a.eval y = .int .u64 n) (h0 : 0 ≤ m - n) (h1 : m - n < 18446744073709551616) : (execOp a.eval o).run Tryz.prog w = .ok (.value (.int .u64 (m - n))) w := by
  have hw : IntKind.u64.wrap (m - n) = m - n := by rw [IntKind.wrap_u64]; omega
  unfold execOp
  simp [ho, hx, hy]
  rw [← hw]
  rfl
theorem exec_loads {a : Act} {o : Oper} {w : World} (ty : TypeId) (x : Operand) (ho : o.op = .load ty x)
    (b off : Nat) (hx : a.eval x = .pointer (some ⟨b, off, none⟩)) (cs : List Value) (d : TypeDesc) (hc : w.rangeAt b off cs)
    (hu : Tryz.prog.underlying ty = some d) (hd : d.isRow = true) (hi : (Tryz.prog.info? ty).map (·.size) = some cs.length) : (execOp a.eval o).run Tryz.prog w = .ok (.value (.agg cs.toArray)) w := by
  unfold execOp
  simp only [ho, hx, Instr.loadAt, Instr.sureAddr, Sem.run_bind, Sem.run_pure, Result.andThen_ok, run_loadVar_mid w b off ty cs d hc hu hd hi]
theorem grown_of_below {w w' : World} {B : Nat} (k : Below B w w') (hB : w.heap.size ≤ B) (row : Option Nat) : w.grownBy w' row := ⟨k.os, k.tape, k.output, k.size, fun i hi _ => k.block i (Nat.lt_of_lt_of_le hi hB)⟩
theorem Grew.then {w w1 w2 : World} {base : Nat} {v v1 : Value} {b1 : List UInt8} (h : Grew w base v w1 v1 b1) (k : w1.grownBy w2 v1.ownBlock) : w.grownBy w2 v.ownBlock := by
  refine ⟨k.os.trans h.grown.os, k.tape.trans h.grown.tape, k.output.trans h.grown.output, Nat.le_trans h.grown.size k.size, fun i hi hne => ?_⟩
  have h1 := h.grown.block i hi hne
  refine (k.block i (Nat.lt_of_lt_of_le hi h.grown.size) ?_).trans h1
  rcases h.row with e | ⟨q, e, hq⟩
  · rw [e]; exact hne
  · rw [e]; intro h2; have := Option.some.inj h2; omega
/-- What a call that puts a record, or a value, behind bytes answers. -/
def encPost (w : World) (base : Nat) (b : Value) (bs : List UInt8) (r : Option (List UInt8)) (e : Ending) (w' : World) : Prop :=
  match r with
  | some nb => ∃ b', e = .returned (.tuple #[b', .bool true]) ∧ Grew w base b w' b' (bs ++ nb)
  | none => e = .returned (.tuple #[.slice none 0 0, .bool false]) ∧ w.grownBy w' b.ownBlock
def appRecSaid (r : Nat) : Prop := ∀ (n : Nat) (lv : Value) (l : List Fld) (m : Nat) (vv : Value) (v : List Val) (M : Nat) (w0 w : World) (base : Nat) (b : Value) (bs : List UInt8), mostL r l = some M → Flds w0 n lv l → Vals w0 m vv v → w0.heap.size ≤ base → Below base w0 w → base ≤ w.heap.size → Own w base b bs → bs.length + M ≤ 10000000 →
    Calls Tryz.prog 91 #[b, lv, vv] w fun e w' => encPost w base b bs (encL r l v) e w'

set_option maxRecDepth 100000 in
set_option maxHeartbeats 2000000 in
theorem appVal_any (r : Nat) (ih : appRecSaid r) (f : Fld) (n : Nat) (o : Value) (x : Val) (m : Nat) (bv : Value) (al : Option Addr) (cl : Nat) (a : Nat) (w0 w : World) (base : Nat) (b : Value) (bs : List UInt8) (hmo : mostOne (mostL r) f = some a) (hmx : f.max < 18446744073709551616) (ho : Flds w0 n o f.of) (hxn : x.n < 18446744073709551616) (hbv : Seg w0 bv x.b) (hbl : x.b.length ≤ maxLen)
    (hll : x.l.length ≤ maxLen) (hL : 0 < x.l.length → ∃ b off, al = some ⟨b, off, none⟩ ∧ b < w0.heap.size ∧ x.l.length ≤ cl ∧ ∀ k r, x.l[k]? = some r → ∃ rv, w0.cell? ⟨b, off + k, none⟩ = some rv ∧ Vals w0 m rv r)
    (hs0 : w0.heap.size ≤ base) (hB0 : Below base w0 w) (hbase : base ≤ w.heap.size) (hO : Own w base b bs) (hsz : bs.length + a ≤ 10000000) :
    Calls Tryz.prog 114 #[b, fldV f o, valV x bv (.slice al x.l.length cl)] w fun e w' => encPost w base b bs (encOne (encL r) f x) e w' := by
  obtain ⟨ab, cb, hbve⟩ : ∃ ab cb, bv = .slice ab x.b.length cb := by
    rcases hbv with ⟨h, ao, c, h2, _⟩ | ⟨b, off, c, h2, _, _, _⟩
    · rw [h]; exact ⟨ao, c, h2⟩
    · exact ⟨_, c, h2⟩
  obtain ⟨ao, oc, hoe, hol, _⟩ := ho.form
  have HAm : Hid (∀ W, Calls Tryz.prog 136 #[fldV f o, valV x bv (.slice al x.l.length cl)] W fun e w' => ∃ y : Nat, e = .returned (.tuple #[.int .u64 (y : Int), .bool (amountOf f x).isSome]) ∧ (∀ m, amountOf f x = some m → y = m) ∧ Below W.heap.size W w') := fun W => by
    rw [hbve]; exact amount_any f o x ab cb al cl W ⟨_, _, _, hoe⟩ hbl hll
  have hmm := mostOne_le' hmo
  have HWd : Hid (∀ W, Calls Tryz.prog 138 #[fldV f o] W fun e w' => e = .returned (.int .i64 (wid (f.max - f.min) : Int)) ∧ Below W.heap.size W w') := fun W => width_any f o hmm hmx W
  have HE : Hid (encOne (encL r) f x = match amountOf f x with
    | none => none
    | some n => if n < f.min ∨ f.max < n then none else (catO (x.l.map (encL r f.of))).map (fun r => leN (n - f.min) (wid (f.max - f.min)) ++ (x.b ++ r))) := rfl
  subst hoe
  have hAl : ∀ ob, Below w.heap.size w (w.alloc ob) := fun ob => (Below.refl _ _).alloc (Nat.le_refl _) _
  unfold maxLen at hbl hll hol
  cases ham : amountOf f x with
  | none =>
    have hres : Hid (encOne (encL r) f x = none) := by show _ = _; rw [HE.out, ham]
    rw [ham] at HAm
    subst hbve
    unfold fldV valV at HAm ⊢
    go_enter Tryz.func114, Tryz.ntmps114
    go_wp2_with (go_at_call 136; refine (HAm.out _).mono ?_; rintro e w1 ⟨y, rfl, _, hb1⟩)
    go_ret2
    have hd : Below w.heap.size w w1 := ((hAl _).alloc (by simp) _).trans (hb1.mono (by simp; omega))
    show encPost w base b bs (encOne (encL r) f x) _ w1
    rw [hres.out]
    exact ⟨rfl, grown_of_below hd (Nat.le_refl _) _⟩
  | some n =>
    rw [ham] at HAm HE
    have HE' : Hid (encOne (encL r) f x = if n < f.min ∨ f.max < n then none else (catO (x.l.map (encL r f.of))).map (fun r => leN (n - f.min) (wid (f.max - f.min)) ++ (x.b ++ r))) := HE.out
    have hnb : n < 18446744073709551616 := by
      obtain ⟨a1, a2, a3⟩ := amountOf_facts ham
      by_cases h1 : f.kind = 1
      · have := (a1 h1).2.2; omega
      by_cases h2 : f.kind = 2
      · have := (a2 h2).2.2; omega
      have := (a3 h1 h2).2.2; omega
    have HX : Hid (∀ W1, Below (w.heap.size + 1 + 1) ((w.alloc (.cells #[.int .i64 f.kind, .int .u64 (f.min : Int), .int .u64 (f.max : Int), .slice ao f.of.length oc] 142)).alloc (.cells #[.int .u64 (x.n : Int), bv, .slice al x.l.length cl] 113)) W1 → Grew w base b W1 b bs ∧ Blk W1 w.heap.size 142 #[.int .i64 f.kind, .int .u64 (f.min : Int), .int .u64 (f.max : Int), .slice ao f.of.length oc] ∧ Blk W1 (w.heap.size + 1) 113 #[.int .u64 (x.n : Int), bv, .slice al x.l.length cl] ∧ w.heap.size + 2 ≤ W1.heap.size) := fun W1 h => by
      have h' := h
      refine ⟨((((Grew.refl hO).after (hAl _) (Nat.le_refl _)).after ((Below.refl (w.heap.size + 1) _).alloc (by simp) _) (by simp))).after h (by simp), ((Blk.new w _ _).alloc _).below h (by omega), (Blk.newAt _ _ _ _ (by simp)).below h (by omega), ?_⟩
      have := h.size
      simpa using this
    have hob : b.ownBlock ≠ some w.heap.size := fun h => by have := (hO.blocks _ h).2; omega
    have hob' : b.ownBlock ≠ some (w.heap.size + 1) := fun h => by have := (hO.blocks _ h).2; omega
    by_cases hrange : n < f.min ∨ f.max < n
    · have hres : Hid (encOne (encL r) f x = none) := by show _ = _; rw [HE'.out, if_pos hrange]
      subst hbve
      unfold fldV valV at HAm ⊢
      by_cases hlo : n < f.min
      · have i1 : (n : Int) < (f.min : Int) := by omega
        go_enter Tryz.func114, Tryz.ntmps114
        go_wp2_with (go_at_call 136; refine (HAm.out _).mono ?_; rintro e w1 ⟨y, rfl, hy, hb1⟩; obtain rfl := hy n rfl; obtain ⟨hG1, hF1, hV1, hs1⟩ := HX.out w1 (by simpa using hb1); have c1 := hF1.cell (j := 1) rfl; have c2 := hF1.cell (j := 2) rfl)
        go_ret2
        show encPost w base b bs (encOne (encL r) f x) _ w1
        rw [hres.out]
        exact ⟨rfl, hG1.grown⟩
      · have i1 : ¬ (n : Int) < (f.min : Int) := by omega
        have i2 : (f.max : Int) < (n : Int) := by omega
        go_enter Tryz.func114, Tryz.ntmps114
        go_wp2_with (go_at_call 136; refine (HAm.out _).mono ?_; rintro e w1 ⟨y, rfl, hy, hb1⟩; obtain rfl := hy n rfl; obtain ⟨hG1, hF1, hV1, hs1⟩ := HX.out w1 (by simpa using hb1); have c1 := hF1.cell (j := 1) rfl; have c2 := hF1.cell (j := 2) rfl)
        go_ret2
        show encPost w base b bs (encOne (encL r) f x) _ w1
        rw [hres.out]
        exact ⟨rfl, hG1.grown⟩
    · obtain ⟨rm1, rm2⟩ := room_one hmo ham (by omega)
      have i1 : ¬ (n : Int) < (f.min : Int) := by omega
      have i2 : ¬ (f.max : Int) < (n : Int) := by omega
      have hres : Hid (encOne (encL r) f x = (catO (x.l.map (encL r f.of))).map (fun r => leN (n - f.min) (wid (f.max - f.min)) ++ (x.b ++ r))) := by show _ = _; rw [HE'.out, if_neg hrange]
      have hsub : (n : Int) - (f.min : Int) = ((n - f.min : Nat) : Int) := by omega
      have hsb : n - f.min < 18446744073709551616 := by omega
      have hwl := wid_le (f.max - f.min)
      have RM : Hid (wid (f.max - f.min) + x.b.length ≤ a ∧ (0 < x.l.length → ∃ k, mostL r f.of = some k ∧ wid (f.max - f.min) + x.b.length + x.l.length * k ≤ a)) := ⟨rm1, rm2⟩
      have hbv' := hbv
      subst hbve
      unfold fldV at HWd
      unfold fldV valV at HAm ⊢
      clear rm1 rm2 hrange HE HE'
      go_enter Tryz.func114, Tryz.ntmps114
      go_wp2_with (first | (go_at_call 136; refine (HAm.out _).mono ?_; rintro e w1 ⟨y, rfl, hy, hb1⟩; obtain rfl := hy n rfl; obtain ⟨hG1, hF1, hV1, hs1⟩ := HX.out w1 (by simpa using hb1); have c0 := hF1.cell (j := 0) rfl; have c1 := hF1.cell (j := 1) rfl; have c2 := hF1.cell (j := 2) rfl; have c3 := hF1.cell (j := 3) rfl) | fail)
      have hS1 : Blk w1.drew w.heap.size 142 #[.int .i64 f.kind, .int .u64 (f.min : Int), .int .u64 (f.max : Int), .slice ao f.of.length oc] := hF1.drew
      refine held_begin (fun W => Blk W w.heap.size 142 #[.int .i64 f.kind, .int .u64 (f.min : Int), .int .u64 (f.max : Int), .slice ao f.of.length oc]) (by kernel_rfl) ?_
      refine held_take 0 32 _ b rfl rfl (by kernel_rfl) (by kernel_rfl) (by kernel_rfl) rfl hS1 (fun _ _ => rfl) ?_
      simp only [Act.put, List.setIfInBounds_toArray, List.set_cons_succ, List.set_cons_zero]
      refine held_take 1 33 _ (.int .u64 (y : Int)) rfl rfl (by kernel_rfl) (by kernel_rfl) (by kernel_rfl) rfl hS1 (fun _ _ => rfl) ?_
      simp only [Act.put, List.setIfInBounds_toArray, List.set_cons_succ, List.set_cons_zero]
      refine held_take 2 34 _ (.pointer (some ⟨w.heap.size, 1, none⟩)) rfl rfl (by kernel_rfl) (by kernel_rfl) (by kernel_rfl) rfl hS1 (fun _ _ => rfl) ?_
      simp only [Act.put, List.setIfInBounds_toArray, List.set_cons_succ, List.set_cons_zero]
      refine held_take 3 35 _ (.int .u64 (f.min : Int)) rfl rfl (by kernel_rfl) (by kernel_rfl) (by kernel_rfl) rfl hS1 (fun W hW => exec_load1 _ _ rfl (fun _ => by kernel_rfl) _ _ rfl _ (hW.cell (j := 1) rfl)) ?_
      simp only [Act.put, List.setIfInBounds_toArray, List.set_cons_succ, List.set_cons_zero]
      refine held_take 4 36 _ (.int .u64 ((y - f.min : Nat) : Int)) rfl rfl (by kernel_rfl) (by kernel_rfl) (by kernel_rfl) rfl hS1 (fun W hW => by rw [← hsub]; exact exec_sub _ _ _ rfl _ _ rfl rfl (by omega) (by omega)) ?_
      simp only [Act.put, List.setIfInBounds_toArray, List.set_cons_succ, List.set_cons_zero]
      refine held_take 5 37 _ (.agg #[.int .i64 f.kind, .int .u64 (f.min : Int), .int .u64 (f.max : Int), .slice ao f.of.length oc]) rfl rfl (by kernel_rfl) (by kernel_rfl) (by kernel_rfl) rfl hS1 (fun W hW => exec_loads _ _ rfl _ _ rfl [.int .i64 f.kind, .int .u64 (f.min : Int), .int .u64 (f.max : Int), .slice ao f.of.length oc] _ (Blk.range' hW) Tryz.underlying142 rfl (by kernel_rfl)) ?_
      simp only [Act.put, List.setIfInBounds_toArray, List.set_cons_succ, List.set_cons_zero]
      refine held_call 6 38 _ 138 _ rfl rfl (by kernel_rfl) rfl (exec_one 138 _ _ rfl _ rfl Tryz.call138) ?_
      refine (HWd.out _).mono ?_
      rintro e w2 ⟨rfl, hb2⟩
      have hG2 : Grew w base b w2 b bs := (hG1.after ((Below.refl _ _).drew) (Nat.le_refl _)).after hb2 (Nat.le_refl _)
      refine ⟨_, rfl, hS1.below hb2 hS1.lt, ?_⟩
      simp only [Act.put, List.setIfInBounds_toArray, List.set_cons_succ, List.set_cons_zero]
      refine held_call 7 39 _ 137 _ rfl rfl (by kernel_rfl) rfl (exec_three 137 _ _ _ _ rfl _ _ _ rfl rfl rfl Tryz.call137) ?_
      refine (appNum_any b bs base (y - f.min) (wid (f.max - f.min)) w2 hG2.own (Nat.le_trans hbase hG2.size) hwl hsb (by omega)).mono ?_
      rintro e w3 ⟨v3, rfl, hG3'⟩
      have hG3 := hG2.trans hG3'
      have h2F := hG3'.blk (hS1.below hb2 hS1.lt) hob
      have h2V := hG3'.blk ((hV1.drew).below hb2 hV1.lt) hob'
      refine ⟨_, rfl, h2F.1, ?_⟩
      simp only [Act.put, List.setIfInBounds_toArray, List.set_cons_succ, List.set_cons_zero]
      refine held_one 8 0 _ v3 rfl rfl (by kernel_rfl) rfl h2F.1 rfl ?_
      simp only [Act.put, List.setIfInBounds_toArray, List.set_cons_zero]
      refine wpAnyH_done (by kernel_rfl) ?_ _
      refine NoPanic.normal ?_
      have s3 := hG3.size
      have hB3 := hB0.trans (hG3.below hO hbase)
      have sb3 := hbv.below hB3 hs0
      have cV1 := h2V.1.cell (j := 1) rfl
      have cV2 := h2V.1.cell (j := 2) rfl
      have cF3 := h2F.1.cell (j := 3) rfl
      have hbl3 : (bs ++ leN (y - f.min) (wid (f.max - f.min))).length = bs.length + wid (f.max - f.min) := by simp [leN_len]
      have hbb : base ≤ w3.heap.size := Nat.le_trans hbase s3
      go_wp2_with (at_builtin; refine app_own _ rfl (.tmp 40) (.tmp 42) rfl base _ _ rfl hG3.own _ x.b rfl (by exact sb3) (by rw [hbl3]; have := RM.out.1; omega) hbb ?_; intro v4 w4 ho4 hg4 hv4; have hG4' := Grew.app ho4 hg4 hv4; have hG4 := hG3.trans hG4'; have h4F := hG4'.blk h2F.1 h2F.2; have h4V := hG4'.blk h2V.1 h2V.2; have dV2 := h4V.1.cell (j := 2) rfl; have dF3 := h4F.1.cell (j := 3) rfl)
      clear cV1 cV2 cF3 hG3 hG3' hG2 hG1 ho4 hg4 hv4 h2F h2V sb3 hbl3 hbb hS1 hb2 hF1 hV1 c0 c1 c2 c3 HAm HWd hG4'
      obtain ⟨P0, hP0⟩ : ∃ P0, P0 = bs ++ leN (y - f.min) (wid (f.max - f.min)) ++ x.b := ⟨_, rfl⟩
      have hP0l : P0.length = bs.length + wid (f.max - f.min) + x.b.length := by rw [hP0]; simp [leN_len]; omega
      have HP : Hid (∀ q, bs ++ (leN (y - f.min) (wid (f.max - f.min)) ++ (x.b ++ q)) = P0 ++ q) := fun q => by rw [hP0]; simp
      rw [← hP0] at hG4
      clear hP0
      obtain ⟨LL, hLL⟩ : ∃ LL, x.l.length = LL := ⟨_, rfl⟩
      rw [hLL] at hL RM hll dV2 h4V ⊢
      have HLL : Hid (x.l.length = LL) := hLL
      have RM2 : Hid (0 < LL → ∃ k, mostL r f.of = some k ∧ P0.length + LL * k ≤ 10000000) := fun h => by
        obtain ⟨k, h1, h2⟩ := RM.out.2 h
        exact ⟨k, h1, by omega⟩
      clear hP0l hLL RM
      go_loopw [0, 47] (fun u i wr => ∃ (j : Nat) (q : List UInt8), j ≤ LL ∧ i = .int .i64 (j : Int) ∧ catO ((x.l.map (encL r f.of)).take j) = some q ∧ (∀ k, mostL r f.of = some k → q.length ≤ j * k) ∧ Grew w base b wr u (P0 ++ q) ∧ Blk wr w.heap.size 142 #[.int .i64 f.kind, .int .u64 (f.min : Int), .int .u64 (f.max : Int), .slice ao f.of.length oc] ∧ u.ownBlock ≠ some w.heap.size) (fun _ i _ => LL - (intOf i).toNat)
      case atStart => exact ⟨0, [], Nat.zero_le _, rfl, by simp [catO], fun _ _ => Nat.zero_le _, by simpa using hG4, h4F.1, h4F.2⟩
      case round =>
        clear hG4 h4F h4V dV2 dF3
        obtain ⟨j, q, hj, rfl, hcat, hql, hG, hF, hne⟩ := hrel
        have HC : Hid (catO ((x.l.map (encL r f.of)).take j) = some q) := hcat
        have hBw := hB0.trans (hG.below hO hbase)
        clear hcat
        by_cases hlt : j < LL
        · obtain ⟨bL, offL, rfl, hbLl, hcl, hrec⟩ := hL (by omega)
          obtain ⟨rec, hrec1⟩ : ∃ rec, x.l[j]? = some rec := ⟨x.l[j]'(by have := HLL.out; omega), List.getElem?_eq_getElem (by have := HLL.out; omega)⟩
          obtain ⟨rv, hrc, hrv⟩ := hrec j rec hrec1
          have K := Keeps.of_below hBw hs0
          have hrc' := K.cell hrc
          obtain ⟨k, hk1, hk2⟩ := RM2.out (by omega)
          have hql' := hql k hk1
          have hjk : (j + 1) * k ≤ LL * k := Nat.mul_le_mul_right k hlt
          have cF := hF.cell (j := 3) rfl
          have i3 : (j : Int) < (LL : Int) := by omega
          have HIH : Hid (Calls Tryz.prog 91 #[u0, .slice ao f.of.length oc, rv] wr fun e w' => encPost wr base u0 (P0 ++ q) (encL r f.of rec) e w') := ih _ _ f.of m rv rec k w0 wr base u0 (P0 ++ q) hk1 ho hrv hs0 hBw (Nat.le_trans hbase hG.size) hG.own (by rw [List.length_append]; rw [Nat.add_mul] at hjk; omega)
          have HS : Hid ((x.l.map (encL r f.of))[j]? = some (encL r f.of rec)) := by show _ = _; rw [List.getElem?_map, hrec1]; rfl
          cases hen : encL r f.of rec with
          | none =>
            rw [hen] at HIH HS
            have hres2 : Hid (encOne (encL r) f x = none) := by show _ = _; rw [hres.out, catO_none _ j HS.out]; rfl
            go_wp2_with (go_at_call 91; refine HIH.out.mono ?_; rintro e w5 ⟨rfl, hb5⟩)
            go_ret2
            show encPost w base b bs (encOne (encL r) f x) _ w5
            rw [hres2.out]
            exact ⟨rfl, hG.then hb5⟩
          | some nb =>
            rw [hen] at HIH HS
            have hnl := encL_len r f.of k rec nb hk1 hen
            go_wp2_with (go_at_call 91; refine HIH.out.mono ?_; rintro e w5 ⟨b5, rfl, hG5⟩)
            go_roundw
            case rel =>
              have hbk := hG5.blk hF hne
              refine ⟨j + 1, q ++ nb, hlt, by go_num, catO_snoc _ j q nb HS.out HC.out, fun k' hk' => ?_, ?_, hbk.1, hbk.2⟩
              · rw [hk1] at hk'
                cases hk'
                rw [List.length_append, Nat.add_mul]; omega
              · rw [← List.append_assoc]; exact hG.trans hG5
            case measure => simp [intOf]; omega
        · have HQ : Hid (catO (x.l.map (encL r f.of)) = some q) := by show _ = _; rw [← HC.out, List.take_of_length_le (by have := HLL.out; simp; omega)]
          have i3 : ¬ (j : Int) < (LL : Int) := by omega
          go_wp2
          go_ret2
          show encPost w base b bs (encOne (encL r) f x) _ wr
          rw [hres.out, HQ.out]
          refine ⟨_, rfl, ?_⟩
          rw [HP.out q]
          exact hG
end Go.Proofs.YtbegphfideopoaaGreat
