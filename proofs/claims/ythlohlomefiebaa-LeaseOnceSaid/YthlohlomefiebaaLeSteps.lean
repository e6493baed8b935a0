/-
  What is proved here: steps of the statements on lease, and numbers, as plain data in memory; what a step does to a table.
  Conditions: those that each fact names.
-/
import Derived.Test.YthlohlomefiebaaLeRow
namespace Go.Proofs.Ythlohlomefiebaa
open Go.RowKit

/-- A step: what to do, a number, a moment, a life. -/
structure SP where
  o : Int
  n : Int
  t : Int
  f : Int
instance : Inhabited SP := ⟨⟨0, 0, 0, 0⟩⟩
instance : Inhabited LE := ⟨⟨0, 0, 0⟩⟩
def SP.good (s : SP) : Prop := -9223372036854775808 ≤ s.n ∧ s.n ≤ 9223372036854775807
def spL (s : SP) : List Value := [.int .i64 s.o, .int .i64 s.n, .int .i64 s.t, .int .i64 s.f]
def spV (s : SP) : Value := .agg (spL s).toArray
def Steps16 (w : World) (v : Value) (l : List SP) : Prop := RowIn spL 4 w v l ∧ ∀ s ∈ l, s.good
def Ints16 (w : World) (v : Value) (l : List Int) : Prop := RowIn (fun z => [.int .i64 z]) 1 w v l ∧ ∀ z ∈ l, -9223372036854775808 ≤ z ∧ z ≤ 9223372036854775807
theorem Steps16.after {w w' : World} {B : Nat} {v : Value} {l : List SP} (h : Steps16 w v l) (hb : Below B w w') (hB : w.heap.size ≤ B) : Steps16 w' v l := ⟨h.1.after hb hB, h.2⟩
theorem Ints16.form {w : World} {v : Value} {l : List Int} (h : Ints16 w v l) (hn : 0 < l.length) : ∃ b off c, v = .slice (some ⟨b, off, none⟩) l.length c ∧ b < w.heap.size ∧ ∀ (i : Nat) z, l[i]? = some z → w.cell? ⟨b, off + i, none⟩ = some (.int .i64 z) := by
  obtain ⟨b, off, c, h1, _, h2, h3⟩ := h.1.form hn
  exact ⟨b, off, c, h1, h2, fun i z hz => by have := h3 i z hz 0 _ rfl; rwa [Nat.mul_one, Nat.add_zero] at this⟩
theorem index_i16 (b off len c I : Nat) (w : World) (h : I < len) : (Instr.indexAt 56 (.slice (some ⟨b, off, none⟩) len c) (.int .i64 (I : Int))).run Try.prog w = .ok (.pointer (some ⟨b, off + I, none⟩)) w := by
  have hs : ∀ w, (sizeOf 3).run Try.prog w = .ok 1 w := fun w => by kernel_rfl
  have hi : (0 : Int) ≤ (I : Int) ∧ (I : Int) < (len : Int) := by omega
  simp [Instr.indexAt, asIntOf, run_underlying Try.underlying56, hs, hi, Addr.add_mid]
  intro h2
  omega
theorem index_s16 (b off len c I : Nat) (w : World) (h : I < len) : (Instr.indexAt 22 (.slice (some ⟨b, off, none⟩) len c) (.int .i64 (I : Int))).run Try.prog w = .ok (.pointer (some ⟨b, off + I * 4, none⟩)) w := by
  have hs : ∀ w, (sizeOf 32).run Try.prog w = .ok 4 w := fun w => by kernel_rfl
  have hi : (0 : Int) ≤ (I : Int) ∧ (I : Int) < (len : Int) := by omega
  simp [Instr.indexAt, asIntOf, run_underlying Try.underlying22, hs, hi, Addr.add_mid]
  intro h2
  omega
def prL (p : Int × Int) : List Value := [.int .i64 p.1, .int .i64 p.2]
def Prs16 (w : World) (v : Value) (l : List (Int × Int)) : Prop := RowIn prL 2 w v l
/-- What a step does to the leases. -/
def doT (l : List LE) (s : SP) : List LE := if s.o = 0 then (grantT l s.n s.t s.f).2 else if s.o = 1 then (renewT l s.n s.t s.f).2 else if s.o = 2 then (endT l s.n).2 else if s.o = 3 then (expT l s.t).2 else l
theorem do_ok {l : List LE} (h : OkT l) (s : SP) : OkT (doT l s) := by
  unfold doT
  split
  · exact grant_ok h _ _ _
  · split
    · exact renew_ok h _ _ _
    · split
      · exact end_ok h _
      · split
        · exact exp_ok h _
        · exact h
end Go.Proofs.Ythlohlomefiebaa
