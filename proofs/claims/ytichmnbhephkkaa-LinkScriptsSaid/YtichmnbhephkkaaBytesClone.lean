/-
  What is proved here: slices.Clone on slices of bytes.
  Conditions: those that each fact names.
-/
import Derived.Test.YtichmnbhephkkaaSegKit
namespace Go.Proofs.Ytichmnbhephkkaa
open Go.RowKit

theorem run_eql_nil_nilD (w : World) (l c : Nat) : (binOp .eql 32 (.slice none l c) (.slice none 0 0)).run Try.prog w = .ok (.bool true) w := by
  have := run_equal_slice_nil (P := Try.prog) w 32 5 none l c Try.underlying32
  simp [binOp, this]
theorem run_eql_bytes_nilD (w : World) (a : Addr) (l c : Nat) : (binOp .eql 32 (.slice (some a) l c) (.slice none 0 0)).run Try.prog w = .ok (.bool false) w := by
  have := run_equal_slice_nil (P := Try.prog) w 32 5 (some a) l c Try.underlying32
  simp [binOp, this]

set_option maxRecDepth 100000 in
theorem clone_anyD (x : Value) (bs : List UInt8) (w : World) (hm : bs.length ≤ 1000000000) (hseg : Seg w x bs) :
    Calls Try.prog 30 #[x] w fun e w' => ∃ v, e = .returned v ∧ Own w' w.heap.size v bs ∧ Below w.heap.size w w' := by
  obtain ⟨ao, c, rfl⟩ := hseg.shapeD
  cases ao with
  | none =>
    obtain ⟨hc, hn⟩ : bs = [] ∧ c = 0 := by
      rcases hseg with ⟨h, ao', c', h2, h3⟩ | ⟨b, off, c', h2, _⟩
      · simp only [Value.slice.injEq] at h2
        exact ⟨h, h2.2.2.trans (h3 h2.1.symm)⟩
      · simp at h2
    subst hc; subst hn
    have hne := run_eql_nil_nilD w 0 0
    go_enter Try.func30, Try.ntmps30
    go_wp2
    go_ret
    exact ⟨_, rfl, ⟨rfl, .inl ⟨rfl, rfl⟩⟩, Below.refl _ _⟩
  | some ad =>
    have hne := run_eql_bytes_nilD w ad bs.length c
    go_enter Try.func30, Try.ntmps30
    go_wp2_with (at_builtin; refine app_own _ rfl (.tmp 5) (.tmp 6) rfl w.heap.size _ [] rfl (by exact own_emptyD _ _ _ rfl (Nat.le_refl _)) _ bs rfl (by exact hseg.alloc _) (by simp; omega) (by simp) ?_; intro v2 w2 ho2 hg2 hv2; rw [List.nil_append] at ho2; have hB2 := below_grown ((Below.refl w.heap.size w).alloc (Nat.le_refl _) _) hg2 (by simp) (fun q hq => by have h2 : w.heap.size = q := Option.some.inj hq; omega))
    go_ret
    exact ⟨_, rfl, ho2, hB2⟩
end Go.Proofs.Ytichmnbhephkkaa
