/-
  What is proved here: plain facts on slices of numbers and of booleans in memory, and on a crash that goes sector by sector.
  Conditions: those that each fact names.
-/
import Derived.Test.YtojgeahablphbaaJChgWorld
import Derived.Test.YtojgeahablphbaaJDiskPure
namespace Go.Proofs.Ytojgeahablphbaa
open Go.RowKit

def ints (l : List Nat) : List Value := l.map fun (k : Nat) => Value.int .i64 (k : Int)
/-- A slice of numbers of the call's own. -/
def OwnI (w : World) (base : Nat) (v : Value) (l : List Nat) : Prop := w.ownsRow base 3 1 v l.length (ints l)
theorem OwnI.blocks {w : World} {base : Nat} {v : Value} {l : List Nat} (h : OwnI w base v l) : ∀ k, v.ownBlock = some k → base ≤ k ∧ k < w.heap.size := World.ownsRow.lt h
theorem OwnI.sl {w : World} {base : Nat} {v : Value} {l : List Nat} (h : OwnI w base v l) : ∃ ao c, v = .slice ao l.length c := by
  rcases h.2 with ⟨h1, h2⟩ | ⟨g, cap, cur, h1, _⟩
  · rw [h2]; exact ⟨_, _, h1⟩
  · exact ⟨_, _, h1⟩
theorem OwnI.nil (w : World) (base : Nat) : OwnI w base (.slice none 0 0) [] := ⟨rfl, .inl ⟨rfl, rfl⟩⟩
theorem OwnI.after {w w' : World} {base B : Nat} {v : Value} {l : List Nat} (h : OwnI w base v l) (hb : Below B w w') (hB : w.heap.size ≤ B) : OwnI w' base v l := by
  refine ⟨h.1, ?_⟩
  rcases h.2 with h2 | ⟨g, cap, cur, h1, h2, h3, h4⟩
  · exact .inl h2
  · exact .inr ⟨g, cap, cur, h1, h2, by rw [hb.block g (Nat.lt_of_lt_of_le (Array.getElem?_eq_some_iff.1 h3).1 hB)]; exact h3, h4⟩
theorem dirtyAt_len : ∀ (l : List Bool) (i : Nat), (dirtyAt i l).length ≤ l.length
  | [], _ => Nat.le_refl _
  | b :: l, i => by
    have := dirtyAt_len l (i + 1)
    cases b
    · simp [dirtyAt]; omega
    · simp [dirtyAt]; omega
/-- Numbers lie here. -/
def IntsAt (w : World) (v : Value) (l : List Nat) : Prop := ∃ ao c, v = .slice ao l.length c ∧ ∀ (j k : Nat), l[j]? = some k → ∃ b off, ao = some ⟨b, off, none⟩ ∧ w.cell? ⟨b, off + j, none⟩ = some (.int .i64 (k : Int))
theorem OwnI.at {w : World} {base : Nat} {v : Value} {l : List Nat} (h : OwnI w base v l) : IntsAt w v l := by
  rcases h.2 with ⟨h1, h2⟩ | ⟨g, cap, cur, h1, h2, h3, h4⟩
  · obtain rfl := List.eq_nil_of_length_eq_zero h2
    exact ⟨none, 0, h1, fun j k hk => by simp at hk⟩
  · refine ⟨_, cap, h1, fun j k hk => ⟨g, 0, rfl, ?_⟩⟩
    have := World.ownsRow.cells h (g := g) (by rw [h1]; rfl) j (.int .i64 (k : Int)) (by unfold ints; rw [List.getElem?_map, hk]; rfl)
    rw [Addr.add_mid] at this
    exact this
theorem OwnI.chg {S : Nat → Prop} {w w' : World} {base : Nat} {v : Value} {l : List Nat} (h : OwnI w base v l) (hc : Chg S w w') (hv : ∀ k, v.ownBlock = some k → ¬ S k) : OwnI w' base v l := by
  refine ⟨h.1, ?_⟩
  rcases h.2 with h2 | ⟨g, cap, cur, h1, h2, h3, h4⟩
  · exact .inl h2
  · exact .inr ⟨g, cap, cur, h1, h2, by rw [hc.2 g (Array.getElem?_eq_some_iff.1 h3).1 (hv g (by rw [h1]; rfl))]; exact h3, h4⟩
/-- Booleans lie here, apart from such blocks. -/
def BoolsA (w : World) (T : Nat → Prop) (v : Value) (l : List Bool) : Prop := ∃ ao c, v = .slice ao l.length c ∧ ∀ (j : Nat) b, l[j]? = some b → ∃ q off, ao = some ⟨q, off, none⟩ ∧ q < w.heap.size ∧ ¬ T q ∧ w.cell? ⟨q, off + j, none⟩ = some (.bool b)
theorem BoolsA.chg {T : Nat → Prop} {w w' : World} {v : Value} {l : List Bool} (h : BoolsA w T v l) (hc : Chg T w w') : BoolsA w' T v l := by
  obtain ⟨ao, c, h1, h2⟩ := h
  refine ⟨ao, c, h1, fun j b hb => ?_⟩
  obtain ⟨q, off, e, hq, hT, hcell⟩ := h2 j b hb
  exact ⟨q, off, e, Nat.lt_of_lt_of_le hq hc.size, hT, by rw [World.cell?_of_block (w := w) (a := ⟨q, off + j, none⟩) (hc.2 q hq hT)]; exact hcell⟩
theorem crashTo_snoc (N : Nat → Nat) : ∀ (l : List Nat) (i k : Nat) (s : DS), crashTo N i (l ++ [k]) s = crashOne (crashTo N i l s) k (N (i + l.length))
  | [], _, _, _ => rfl
  | a :: l, i, k, s => by
    have := crashTo_snoc N l (i + 1) k (crashOne s a (N i))
    rw [List.length_cons, show i + (l.length + 1) = i + 1 + l.length by omega]
    exact this
theorem crash_step (N : Nat → Nat) (l : List Nat) (I k : Nat) (s : DS) (h : l[I]? = some k) : crashTo N 0 (l.take (I + 1)) s = crashOne (crashTo N 0 (l.take I) s) k (N I) := by
  have hI : I < l.length := (List.getElem?_eq_some_iff.1 h).1
  rw [List.take_add_one, h]
  show crashTo N 0 (l.take I ++ [k]) s = _
  rw [crashTo_snoc, List.length_take, Nat.min_eq_left (by omega), Nat.zero_add]
end Go.Proofs.Ytojgeahablphbaa
