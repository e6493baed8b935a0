/-
  What is proved here: the document's Same tells whether two lists of leases are the same.
  Conditions: they lie in memory.
-/
import Derived.Test.YthlohlomefiebaaRefLe
import Derived.Test.YthlohlomefiebaaLeEq
namespace Go.Proofs.Ythlohlomefiebaa
open Go.RowKit Go.Maps

set_option maxRecDepth 100000 in
set_option maxHeartbeats 2000000 in
theorem same16_any {w : World} {x y : Value} {a b : List LE} (hx : LeIn w x a) (hy : LeIn w y b) : Calls Try.prog 12 #[x, y] w fun e w' => e = .returned (.bool (decide (a = b))) ∧ Below w.heap.size w w' := by
  have HX : Hid (LeIn w x a) := hx
  have HY : Hid (LeIn w y b) := hy
  obtain ⟨ax, cx, rfl⟩ := hx.shape
  obtain ⟨ay, cy, rfl⟩ := hy.shape
  have hal : a.length ≤ maxLen := by obtain ⟨_, _, _, _, h3, _⟩ := hx; exact h3
  clear hx hy
  by_cases hl : a.length = b.length
  · have dl : ((a.length : Int) != (b.length : Int)) = false := by rw [hl]; exact bne_self_eq_false _
    obtain ⟨r, hr⟩ : ∃ r, r = decide (a = b) := ⟨_, rfl⟩
    have HRR : Hid (r = decide (a = b)) := hr
    rw [← hr]
    clear hr
    go_enter Try.func12, Try.ntmps12
    go_wp2_with fail
    go_loopw [5] (fun i wr => ∃ k : Nat, i = .int .i64 (k : Int) ∧ k ≤ a.length ∧ Hid (a.take k = b.take k) ∧ Below w.heap.size w wr) (fun i _ => a.length - (Go.RowKit.intOf i).toNat)
    case atStart => exact ⟨0, rfl, Nat.zero_le _, rfl, Below.refl _ _⟩
    case round =>
      obtain ⟨k, rfl, hk, HE, hB⟩ := hrel
      unfold maxLen at hal
      by_cases hlt : k < a.length
      · obtain ⟨e, he⟩ : ∃ e, a[k]? = some e := ⟨_, List.getElem?_eq_getElem hlt⟩
        obtain ⟨f, hf⟩ : ∃ f, b[k]? = some f := ⟨_, List.getElem?_eq_getElem (by omega)⟩
        obtain ⟨bx, ox, c1, e1, _, hbx, hcx⟩ := HX.out.form (by omega)
        obtain ⟨by', oy, c2, e2, _, hby, hcy⟩ := HY.out.form (by omega)
        cases e1
        cases e2
        have gx : ∀ (j : Nat) u, (leL e)[j]? = some u → wr.cell? ⟨bx, ox + k * 3 + j, none⟩ = some u := fun j u hu => (hB.cell (p := ⟨bx, ox + k * 3 + j, none⟩) hbx).trans (hcx k e he j u hu)
        have gy : ∀ (j : Nat) u, (leL f)[j]? = some u → wr.cell? ⟨by', oy + k * 3 + j, none⟩ = some u := fun j u hu => (hB.cell (p := ⟨by', oy + k * 3 + j, none⟩) hby).trans (hcy k f hf j u hu)
        have x0 : wr.cell? ⟨bx, ox + k * 3, none⟩ = some (.int .i64 e.n) := gx 0 _ rfl
        have x1 : wr.cell? ⟨bx, ox + k * 3 + 1, none⟩ = some (.int .i64 e.d) := gx 1 _ rfl
        have x2 : wr.cell? ⟨bx, ox + k * 3 + 2, none⟩ = some (.int .i64 e.u) := gx 2 _ rfl
        have y0 : wr.cell? ⟨by', oy + k * 3, none⟩ = some (.int .i64 f.n) := gy 0 _ rfl
        have y1 : wr.cell? ⟨by', oy + k * 3 + 1, none⟩ = some (.int .i64 f.d) := gy 1 _ rfl
        have y2 : wr.cell? ⟨by', oy + k * 3 + 2, none⟩ = some (.int .i64 f.u) := gy 2 _ rfl
        have ix := fun w => index_le bx ox a.length cx k w hlt
        have iy := fun w => index_le by' oy b.length cy k w (by omega)
        have HEF : Hid (a[k]? = some e ∧ b[k]? = some f) := ⟨he, hf⟩
        clear gx gy hcx hcy he hf hbx hby
        by_cases hef : e = f
        · have hne : ∀ w, (binOp .neq 43 (.agg #[.int .i64 e.n, .int .i64 e.d, .int .i64 e.u]) (.agg #[.int .i64 f.n, .int .i64 f.d, .int .i64 f.u])).run Try.prog w = .ok (.bool false) w := fun w => by rw [neq_le, decide_eq_true hef]; rfl
          have HE2 : Hid (a.take (k + 1) = b.take (k + 1)) := by
            show _ = _
            rw [List.take_add_one, List.take_add_one, HE.out, HEF.out.1, HEF.out.2, hef]
          clear hef HEF
          obtain ⟨en, ed, eu⟩ := e
          obtain ⟨fn, fd, fu⟩ := f
          dsimp only at *
          go_wp2_with fail
          go_quiet (fail)
          go_wp2
          go_roundw
          case rel => exact ⟨k + 1, by go_num, hlt, HE2.out, Below.drewN hB _⟩
          case measure => simp [Go.RowKit.intOf]; omega
        · have hne : ∀ w, (binOp .neq 43 (.agg #[.int .i64 e.n, .int .i64 e.d, .int .i64 e.u]) (.agg #[.int .i64 f.n, .int .i64 f.d, .int .i64 f.u])).run Try.prog w = .ok (.bool true) w := fun w => by rw [neq_le, decide_eq_false hef]; rfl
          have HR2 : Hid (r = false) := by
            show _ = _
            rw [HRR.out]
            exact decide_eq_false (fun e2 => hef (by have h1 := HEF.out.1; have h2 := HEF.out.2; rw [e2, h2] at h1; exact (Option.some.inj h1).symm))
          clear hef HEF HRR
          obtain ⟨en, ed, eu⟩ := e
          obtain ⟨fn, fd, fu⟩ := f
          dsimp only at *
          go_wp2_with fail
          go_quiet (fail)
          go_wp2
          go_ret
          exact ⟨by rw [HR2.out]; rfl, Below.drewN hB _⟩
      · have hkl : k = a.length := by omega
        have hni : ¬ (k : Int) < (a.length : Int) := by omega
        have HR2 : Hid (r = true) := by
          show _ = _
          rw [HRR.out]
          have := HE.out
          rw [hkl, List.take_length, hl, List.take_length] at this
          exact decide_eq_true this
        clear hkl hlt HRR
        go_wp2
        go_ret
        exact ⟨by rw [HR2.out]; rfl, hB⟩
  · have dl : ((a.length : Int) != (b.length : Int)) = true := by
      rw [bne_iff_ne]; omega
    have hd : decide (a = b) = false := decide_eq_false (fun e => hl (by rw [e]))
    rw [hd]
    clear hl hd
    go_enter Try.func12, Try.ntmps12
    go_wp2
    go_ret
    exact ⟨rfl, Below.refl _ _⟩
end Go.Proofs.Ythlohlomefiebaa
