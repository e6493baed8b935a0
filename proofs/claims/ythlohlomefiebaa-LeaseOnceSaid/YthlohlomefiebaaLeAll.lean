/-
  What is proved here: Table.All tells a copy of all leases; New makes a table; the small thing that the statements on lease ask first is so.
  Conditions: the table lies in memory as laws hold it.
-/
import Derived.Test.YthlohlomefiebaaLeRenew
namespace Go.Proofs.Ythlohlomefiebaa
open Go.RowKit Go.Maps

theorem wp_appE {w w' : World} {ops : Array Oper} {rest : List Oper} {o : Oper} {a : Act} {Q : Exit → Act → World → Prop} (hgd : o.guard = none) (s x : Operand) (ho : o.op = .call { callee := .builtin .append, args := #[s, x], argTypes := #[27, 27] }) (v u v' : Value) (hs : a.eval s = v) (hx : a.eval x = u)
    (hrun : ∀ ty, (Builtin.append_ #[27, 27] ty #[v, u]).run Try.prog w = .ok v' w') (hK : wpList Try.prog ops Q rest (a.put o.dst v') w') : wpList Try.prog ops Q (o :: rest) a w := by
  refine wpList_plain hgd fun K hK' => ?_
  unfold Oper.wp
  simp [execOp, ho, resolve, invoke, builtin, hs, hx, hrun, Result.andThen]
  exact hK' _ _ hK
theorem empty_le (w : World) (base n : Nat) (hn : n = w.heap.size) (hb : base ≤ n) : LeR (w.alloc (.cells #[] 43)) base (.slice (some ⟨n, 0, none⟩) 0 0) [] := by
  subst hn
  exact ⟨rfl, .inr ⟨w.heap.size, 0, #[], rfl, hb, heap_alloc_new w _, Nat.le_refl _, by unfold maxLen; omega, rfl, rfl⟩⟩
theorem run_eql_nilE (w : World) (ao : Option Addr) (l c : Nat) : (binOp .eql 27 (.slice ao l c) (.slice none 0 0)).run Try.prog w = .ok (.bool ao.isNone) w := by
  have := run_equal_slice_nil (P := Try.prog) w 27 43 ao l c Try.underlying27
  cases ao <;> simp [binOp, this]
set_option maxRecDepth 100000 in
theorem clone16_any {w : World} {x : Value} {l : List LE} (h : LeIn w x l) (hl : l.length ≤ 100000) : Calls Try.prog 28 #[x] w fun e w' => ∃ v, e = .returned v ∧ LeR w' w.heap.size v l ∧ Below w.heap.size w w' := by
  obtain ⟨ao, c, rfl⟩ := h.shape
  cases ao with
  | none =>
    have hm : l = [] := by
      obtain ⟨ao, c', h1, _, _, _, h4⟩ := h
      cases l with
      | nil => rfl
      | cons z l => obtain ⟨b, off, e, _⟩ := h4 0 z rfl; subst e; cases h1
    subst hm
    have hne : (binOp .eql 27 (.slice none 0 c) (.slice none 0 0)).run Try.prog w = .ok (.bool true) w := run_eql_nilE w none 0 c
    have hc0 : c = 0 := by
      obtain ⟨ao, c', h1, _, _, h3, _⟩ := h
      cases h1
      exact h3 rfl
    subst hc0
    clear h
    go_enter Try.func28, Try.ntmps28
    go_wp2
    go_ret
    exact ⟨_, rfl, LeR.nil _ _, Below.refl _ _⟩
  | some ad =>
    have hB := below_newE w (.cells #[] 43)
    obtain ⟨v', W', h0, h1, h2, h3⟩ := (empty_le w w.heap.size w.heap.size rfl (Nat.le_refl _)).app (h.after hB (Nat.le_refl _)) (by show 0 + l.length ≤ _; omega) hB.size
    rw [List.nil_append] at h1
    have hB2 : Below w.heap.size w W' := hB.trans (h3.below (fun k e => by cases e; exact Nat.le_refl _) hB.size)
    have hne : (binOp .eql 27 (.slice (some ad) l.length c) (.slice none 0 0)).run Try.prog w = .ok (.bool false) w := run_eql_nilE w (some ad) l.length c
    clear h h2 h3 hB
    go_enter Try.func28, Try.ntmps28
    go_wp2_with (refine wp_appE rfl _ _ rfl _ _ v' rfl rfl h0 ?_)
    go_ret
    exact ⟨_, rfl, h1, hB2⟩
set_option maxRecDepth 100000 in
theorem all16_any {w : World} {lo G b : Nat} {v : Value} {l : List LE} (h : LeT w lo G b v l) : Calls Try.prog 13 #[.pointer (some ⟨G, 0, none⟩)] w fun e w' => ∃ u, e = .returned u ∧ LeR w' w.heap.size u l ∧ Below w.heap.size w w' := by
  have HC := clone16_any h.row.lies (by have := h.ok.len; omega)
  obtain ⟨ao, c, rfl⟩ := h.row.shape
  have c0 : w.cell? ⟨G, 0, none⟩ = some (.slice ao l.length c) := h.head.cell (j := 0) rfl
  clear h
  go_enter Try.func13, Try.ntmps13
  go_wp2_with fail
  refine HC.mono ?_
  rintro e w2 ⟨u, rfl, h1, h2⟩
  go_wp2
  go_ret
  exact ⟨u, rfl, h1, h2⟩
set_option maxRecDepth 100000 in
theorem new16_any (w : World) : Calls Try.prog 10 #[] w fun e w' => ∃ G b, e = .returned (.pointer (some ⟨G, 0, none⟩)) ∧ LeT w' w.heap.size G b (.slice none 0 0) [] ∧ Below w.heap.size w w' := by
  have hown0 : (w.alloc (.map #[] 0)).ownsMap Try.prog 3 numR w.heap.size 0 (.map []) := World.ownsMap_made (H := Unit) w Try.prog 3 numR
  have hB1 := below_newE w (.map #[] 0)
  have hB2 := below_newE (w.alloc (.map #[] 0)) (.cells #[.slice none 0 0, .map (some w.heap.size)] 60)
  have hk := Blk.new (w.alloc (.map #[] 0)) 60 #[.slice none 0 0, .map (some w.heap.size)]
  have hmm := @run_makeMap Try.prog
  have hT : LeT ((w.alloc (.map #[] 0)).alloc (.cells #[.slice none 0 0, .map (some w.heap.size)] 60)) w.heap.size (w.alloc (.map #[] 0)).heap.size w.heap.size (.slice none 0 0) [] := ⟨hk, LeR.nil _ _, ⟨0, _, own_chgE hown0 (Chg.of_below hB2 (Nat.le_refl _)) (S := fun _ => False) id, HoldsT.nil, Nat.le_refl _⟩, OkT.nil, by simp, Nat.le_refl _, (fun e => by cases e), (fun e => by cases e), by rw [World.size_alloc]; omega⟩
  have hBB := hB1.trans (hB2.mono hB1.size)
  clear hown0 hk hB1 hB2
  go_enter Try.func10, Try.ntmps10
  go_wp2
  go_ret
  refine ⟨_, _, ?_, hT, hBB⟩
  simp
end Go.Proofs.Ythlohlomefiebaa
