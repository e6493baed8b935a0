/-
  What is proved here: where fields and records lie in memory; that they lie there still in a world that has grown; and that arguments of these types that came in lie so.
  Conditions: those that each fact names.
-/
import Derived.Test.YtgfcindkfnjeoaaJPackPure
import Derived.Test.YtgfcindkfnjeoaaJShaPure
import Derived.Deep.Slices
namespace Go.Proofs.Ytgfcindkfnjeoaa
open Go.RowKit

/-- A field lies here; F: how fields within lie. -/
def FAt (w : World) (F : Value → List Fld → Prop) (b off : Nat) (f : Fld) : Prop :=
  w.cell? ⟨b, off, none⟩ = some (.int .i64 f.kind) ∧ w.cell? ⟨b, off + 1, none⟩ = some (.int .u64 (f.min : Int)) ∧ w.cell? ⟨b, off + 2, none⟩ = some (.int .u64 (f.max : Int)) ∧
    (∃ o, w.cell? ⟨b, off + 3, none⟩ = some o ∧ F o f.of) ∧ f.min < 18446744073709551616 ∧ f.max < 18446744073709551616
/-- A slice of fields. -/
def Flds (w : World) : Nat → Value → List Fld → Prop
  | 0, v, l => v = .slice none 0 0 ∧ l = []
  | n + 1, v, l => ∃ ao c, v = .slice ao l.length c ∧ l.length ≤ maxLen ∧ (0 < l.length → ∃ b off, ao = some ⟨b, off, none⟩ ∧ b < w.heap.size ∧ l.length ≤ c ∧ ∀ i f, l[i]? = some f → FAt w (Flds w n) b (off + i * 4) f)
/-- A value lies here; V: how records within lie. -/
def VAt (w : World) (V : Value → List Val → Prop) (b off : Nat) (x : Val) : Prop :=
  w.cell? ⟨b, off, none⟩ = some (.int .u64 (x.n : Int)) ∧ (∃ bv, w.cell? ⟨b, off + 1, none⟩ = some bv ∧ Seg w bv x.b ∧ x.b.length ≤ maxLen) ∧
    (∃ ao c, w.cell? ⟨b, off + 2, none⟩ = some (.slice ao x.l.length c) ∧ x.l.length ≤ maxLen ∧ (0 < x.l.length → ∃ b off, ao = some ⟨b, off, none⟩ ∧ b < w.heap.size ∧ x.l.length ≤ c ∧ ∀ k r, x.l[k]? = some r → ∃ rv, w.cell? ⟨b, off + k, none⟩ = some rv ∧ V rv r)) ∧ x.n < 18446744073709551616
/-- A slice of values. -/
def Vals (w : World) : Nat → Value → List Val → Prop
  | 0, v, l => v = .slice none 0 0 ∧ l = []
  | n + 1, v, l => ∃ ao c, v = .slice ao l.length c ∧ l.length ≤ maxLen ∧ (0 < l.length → ∃ b off, ao = some ⟨b, off, none⟩ ∧ b < w.heap.size ∧ l.length ≤ c ∧ ∀ i x, l[i]? = some x → VAt w (Vals w n) b (off + i * 3) x)

/-- All that lies in a world lies in the other. -/
def Keeps (w w' : World) : Prop := w.heap.size ≤ w'.heap.size ∧ ∀ b o, b < w.heap.size → w'.cell? ⟨b, o, none⟩ = w.cell? ⟨b, o, none⟩
theorem Keeps.refl (w : World) : Keeps w w := ⟨Nat.le_refl _, fun _ _ _ => rfl⟩
theorem Keeps.trans {a b c : World} (h : Keeps a b) (k : Keeps b c) : Keeps a c := ⟨Nat.le_trans h.1 k.1, fun x o hx => (k.2 x o (Nat.lt_of_lt_of_le hx h.1)).trans (h.2 x o hx)⟩
theorem Keeps.of_below {w w' : World} {B : Nat} (h : Below B w w') (hB : w.heap.size ≤ B) : Keeps w w' := by
  have := bcell (h.mono hB)
  exact ⟨h.size, fun b o hb => this.1 b o hb⟩
theorem Keeps.drewN (w : World) (n : Nat) : Keeps w (w.drewN n) := ⟨Nat.le_refl _, fun _ _ _ => rfl⟩
theorem Keeps.drew (w : World) : Keeps w w.drew := ⟨Nat.le_refl _, fun _ _ _ => rfl⟩
theorem Keeps.grown {w w' : World} (h : w.grownBy w' none) : Keeps w w' := Keeps.of_below (below_grown (Below.refl w.heap.size w) h (Nat.le_refl _) (fun k hk => by cases hk)) (Nat.le_refl _)
theorem cell_lt {w : World} {b o : Nat} {v : Value} (h : w.cell? ⟨b, o, none⟩ = some v) : b < w.heap.size := by
  have := block_lt_of_cell h
  simpa using this
theorem Keeps.cell {w w' : World} (h : Keeps w w') {b o : Nat} {v : Value} (hc : w.cell? ⟨b, o, none⟩ = some v) : w'.cell? ⟨b, o, none⟩ = some v := (h.2 b o (cell_lt hc)).trans hc
theorem Seg.keeps {w w' : World} {v : Value} {bs : List UInt8} (h : Seg w v bs) (k : Keeps w w') : Seg w' v bs := by
  rcases h with h | ⟨b, off, c, h1, h2, h3, h4⟩
  · exact .inl h
  · exact .inr ⟨b, off, c, h1, h2, fun j hj => k.cell (h3 j hj), Nat.lt_of_lt_of_le h4 k.1⟩
theorem FAt.keeps {w w' : World} {F F' : Value → List Fld → Prop} {b off : Nat} {f : Fld} (h : FAt w F b off f) (k : Keeps w w') (hF : ∀ v l, F v l → F' v l) : FAt w' F' b off f := by
  obtain ⟨h1, h2, h3, ⟨o, h4, h5⟩, h6⟩ := h
  exact ⟨k.cell h1, k.cell h2, k.cell h3, ⟨o, k.cell h4, hF _ _ h5⟩, h6⟩
theorem Flds.keeps {w w' : World} (k : Keeps w w') : ∀ (n : Nat) (v : Value) (l : List Fld), Flds w n v l → Flds w' n v l
  | 0, _, _, h => h
  | n + 1, v, l, ⟨ao, c, h1, h2, h3⟩ => ⟨ao, c, h1, h2, fun h0 => by
      obtain ⟨b, off, h4, h5, h6, h7⟩ := h3 h0
      exact ⟨b, off, h4, Nat.lt_of_lt_of_le h5 k.1, h6, fun i f hf => (h7 i f hf).keeps k (Flds.keeps k n)⟩⟩
theorem VAt.keeps {w w' : World} {V V' : Value → List Val → Prop} {b off : Nat} {x : Val} (h : VAt w V b off x) (k : Keeps w w') (hV : ∀ v l, V v l → V' v l) : VAt w' V' b off x := by
  obtain ⟨h1, ⟨bv, h2, h3, h3'⟩, ⟨ao, c, h4, h5, h6⟩, h7⟩ := h
  refine ⟨k.cell h1, ⟨bv, k.cell h2, h3.keeps k, h3'⟩, ⟨ao, c, k.cell h4, h5, fun h0 => ?_⟩, h7⟩
  obtain ⟨b, off, h8, h9, h10, h11⟩ := h6 h0
  exact ⟨b, off, h8, Nat.lt_of_lt_of_le h9 k.1, h10, fun j r hr => by
    obtain ⟨rv, h12, h13⟩ := h11 j r hr
    exact ⟨rv, k.cell h12, hV _ _ h13⟩⟩
theorem Vals.keeps {w w' : World} (k : Keeps w w') : ∀ (n : Nat) (v : Value) (l : List Val), Vals w n v l → Vals w' n v l
  | 0, _, _, h => h
  | n + 1, v, l, ⟨ao, c, h1, h2, h3⟩ => ⟨ao, c, h1, h2, fun h0 => by
      obtain ⟨b, off, h4, h5, h6, h7⟩ := h3 h0
      exact ⟨b, off, h4, Nat.lt_of_lt_of_le h5 k.1, h6, fun i f hf => (h7 i f hf).keeps k (Vals.keeps k n)⟩⟩
/-- The form of a slice of fields. -/
theorem Flds.form {w : World} {n : Nat} {v : Value} {l : List Fld} (h : Flds w n v l) : ∃ ao c, v = .slice ao l.length c ∧ l.length ≤ maxLen ∧ (0 < l.length → ∃ b off, ao = some ⟨b, off, none⟩ ∧ b < w.heap.size ∧ l.length ≤ c ∧ ∀ i f, l[i]? = some f → FAt w (Flds w (n - 1)) b (off + i * 4) f) := by
  cases n with
  | zero => obtain ⟨rfl, rfl⟩ := h; exact ⟨none, 0, rfl, Nat.zero_le _, fun h => by cases h⟩
  | succ n => exact h
theorem Vals.form {w : World} {n : Nat} {v : Value} {l : List Val} (h : Vals w n v l) : ∃ ao c, v = .slice ao l.length c ∧ l.length ≤ maxLen ∧ (0 < l.length → ∃ b off, ao = some ⟨b, off, none⟩ ∧ b < w.heap.size ∧ l.length ≤ c ∧ ∀ i x, l[i]? = some x → VAt w (Vals w (n - 1)) b (off + i * 3) x) := by
  cases n with
  | zero => obtain ⟨rfl, rfl⟩ := h; exact ⟨none, 0, rfl, Nat.zero_le _, fun h => by cases h⟩
  | succ n => exact h
end Go.Proofs.Ytgfcindkfnjeoaa
