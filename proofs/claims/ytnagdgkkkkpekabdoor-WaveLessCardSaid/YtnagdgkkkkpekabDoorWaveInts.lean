/-
  What is proved here: slices of ints in memory, and those of a call's own.
  Conditions: those that each fact names.
-/
import Derived.Test.YtnagdgkkkkpekabDoorChgWorld
import Derived.Test.YtnagdgkkkkpekabDoorShaApp
import Derived.Test.YtnagdgkkkkpekabDoorWaveSmall
namespace Go.Proofs.YtnagdgkkkkpekabDoor
open Go.RowKit

abbrev vI (z : Int) : Value := .int .i64 z
/-- The value v is a slice that holds these ints. -/
def IntsI (w : World) (v : Value) (zs : List Int) : Prop := ∃ ao c, v = .slice ao zs.length c ∧ zs.length ≤ c ∧ zs.length ≤ maxLen ∧ (ao = none → c = 0) ∧ ∀ (j : Nat) z, zs[j]? = some z → ∃ b off, ao = some ⟨b, off, none⟩ ∧ b < w.heap.size ∧ w.cell? ⟨b, off + j, none⟩ = some (vI z)
theorem IntsI.shape {w : World} {v : Value} {zs : List Int} (h : IntsI w v zs) : ∃ ao c, v = .slice ao zs.length c := by
  obtain ⟨ao, c, h1, _⟩ := h
  exact ⟨ao, c, h1⟩
theorem IntsI.short {w : World} {v : Value} {zs : List Int} (h : IntsI w v zs) : zs.length ≤ maxLen := by
  obtain ⟨ao, c, _, _, h1, _⟩ := h
  exact h1
theorem IntsI.form {w : World} {v : Value} {zs : List Int} (h : IntsI w v zs) (hn : 0 < zs.length) : ∃ b off c, v = .slice (some ⟨b, off, none⟩) zs.length c ∧ zs.length ≤ c ∧ b < w.heap.size ∧ ∀ (j : Nat) z, zs[j]? = some z → w.cell? ⟨b, off + j, none⟩ = some (vI z) := by
  obtain ⟨ao, c, h1, h2, _, _, h3⟩ := h
  obtain ⟨b, off, rfl, hb, _⟩ := h3 0 _ (List.getElem?_eq_getElem hn)
  refine ⟨b, off, c, h1, h2, hb, fun j z hz => ?_⟩
  obtain ⟨b', off', e, _, hc⟩ := h3 j z hz
  cases e
  exact hc
theorem IntsI.chg {S : Nat → Prop} {w w' : World} {v : Value} {zs : List Int} (h : IntsI w v zs) (hc : Chg S w w') (hS : 0 < zs.length → ∀ q, v.ownBlock = some q → ¬ S q) : IntsI w' v zs := by
  obtain ⟨ao, c, h1, h2, h3, h3', h4⟩ := h
  refine ⟨ao, c, h1, h2, h3, h3', fun j z hz => ?_⟩
  obtain ⟨b, off, e, hb, hcell⟩ := h4 j z hz
  have h0 : 0 < zs.length := by have := (List.getElem?_eq_some_iff.1 hz).1; omega
  have hn := hS h0 b (by rw [h1, e]; rfl)
  exact ⟨b, off, e, Nat.lt_of_lt_of_le hb hc.size, by rw [World.cell?_of_block (w := w) (a := ⟨b, off + j, none⟩) (hc.2 b hb hn)]; exact hcell⟩
theorem IntsI.below {B : Nat} {w w' : World} {v : Value} {zs : List Int} (h : IntsI w v zs) (hb : Below B w w') (hB : w.heap.size ≤ B) : IntsI w' v zs := h.chg (S := fun _ => False) (Chg.of_below hb hB) (fun _ _ _ => id)
theorem IntsI.nil (w : World) : IntsI w (.slice none 0 0) [] := ⟨none, 0, rfl, Nat.le_refl _, by unfold maxLen; exact Nat.zero_le _, fun _ => rfl, fun j z h => by simp at h⟩
theorem index_intsI (b off len c I : Nat) (w : World) (h : I < len) : (Instr.indexAt 22 (.slice (some ⟨b, off, none⟩) len c) (.int .i64 (I : Int))).run Tryd.prog w = .ok (.pointer (some ⟨b, off + I, none⟩)) w := by
  have hs : ∀ w, (sizeOf 3).run Tryd.prog w = .ok 1 w := fun w => by kernel_rfl
  have hi : (0 : Int) ≤ (I : Int) ∧ (I : Int) < (len : Int) := by omega
  simp [Instr.indexAt, asIntOf, run_underlying Tryd.underlying22, hs, hi, Addr.add_mid]
  intro h2
  omega
/-- A slice of ints of the call's own. -/
def OwnZ (w : World) (base : Nat) (v : Value) (l : List Int) : Prop := w.ownsRow base 3 1 v l.length (l.map vI)
theorem OwnZ.nil (w : World) (base : Nat) : OwnZ w base (.slice none 0 0) [] := ⟨rfl, .inl ⟨rfl, rfl⟩⟩
theorem OwnZ.ints {w : World} {base : Nat} {v : Value} {l : List Int} (h : OwnZ w base v l) : IntsI w v l := by
  rcases h.2 with ⟨h1, h2⟩ | ⟨g, cap, cur, h1, h2, h3, h4, h5, _⟩
  · obtain rfl := List.eq_nil_of_length_eq_zero h2
    subst h1
    exact IntsI.nil w
  · refine ⟨_, cap, h1, h4, Nat.le_trans h4 h5, (fun e => by cases e), fun j z hz => ⟨g, 0, rfl, (Array.getElem?_eq_some_iff.1 h3).1, ?_⟩⟩
    have := World.ownsRow.cells h (g := g) (by rw [h1]; rfl) j (vI z) (by rw [List.getElem?_map, hz]; rfl)
    rw [Addr.add_mid] at this
    exact this
theorem OwnZ.blocks {w : World} {base : Nat} {v : Value} {l : List Int} (h : OwnZ w base v l) : ∀ k, v.ownBlock = some k → base ≤ k ∧ k < w.heap.size := World.ownsRow.lt h
theorem OwnZ.shape {w : World} {base : Nat} {v : Value} {l : List Int} (h : OwnZ w base v l) : ∃ ao c, v = .slice ao l.length c := h.ints.shape
theorem OwnZ.mono {w : World} {base base' : Nat} {v : Value} {l : List Int} (h : OwnZ w base v l) (hb : base' ≤ base) : OwnZ w base' v l := by
  refine ⟨h.1, ?_⟩
  rcases h.2 with h2 | ⟨g, cap, cur, h1, h2, h3⟩
  · exact .inl h2
  · exact .inr ⟨g, cap, cur, h1, Nat.le_trans hb h2, h3⟩
theorem OwnZ.chg {S : Nat → Prop} {w w' : World} {base : Nat} {v : Value} {l : List Int} (h : OwnZ w base v l) (hc : Chg S w w') (hv : ∀ k, v.ownBlock = some k → ¬ S k) : OwnZ w' base v l := by
  refine ⟨h.1, ?_⟩
  rcases h.2 with h2 | ⟨g, cap, cur, h1, h2, h3, h4⟩
  · exact .inl h2
  · exact .inr ⟨g, cap, cur, h1, h2, by rw [hc.2 g (Array.getElem?_eq_some_iff.1 h3).1 (hv g (by rw [h1]; rfl))]; exact h3, h4⟩
theorem OwnZ.below {w w' : World} {base B : Nat} {v : Value} {l : List Int} (h : OwnZ w base v l) (hb : Below B w w') (hB : w.heap.size ≤ B) : OwnZ w' base v l := h.chg (S := fun _ => False) (Chg.of_below hb hB) (fun _ _ => id)
theorem one_ints (l : List Int) : ∀ u ∈ l.map vI, u.oneCell' = true := fun u hu => by
  obtain ⟨z, _, rfl⟩ := List.mem_map.1 hu
  rfl
theorem Tryd.infoI3 : (Tryd.prog.info? 3).map (fun i => (i.zero, i.size, i.bytes)) = some (some (.int .i64 0), 1, 8) := by kernel_rfl
theorem parts_int : ∃ i, Tryd.prog.info? 3 = some i ∧ i.zero = some (.int .i64 0) ∧ i.size = 1 ∧ i.bytes = 8 := info_parts Tryd.infoI3
theorem empty_ints (w : World) (base n : Nat) (hn : n = w.heap.size) (hb : base ≤ n) : OwnZ (w.alloc (.cells #[] 3)) base (.slice (some ⟨n, 0, none⟩) 0 0) [] := by
  subst hn
  exact ⟨rfl, .inr ⟨w.heap.size, 0, #[], rfl, hb, heap_alloc_new w _, Nat.le_refl _, by unfold maxLen; omega, rfl, rfl⟩⟩
/-- append onto a slice of ints of the call's own. -/
theorem app_ints (w : World) {ops : Array Oper} {rest : List Oper} {o : Oper} {a : Act} {Q : Exit → Act → World → Prop} (hgd : o.guard = none) (s x : Operand)
    (ho : o.op = .call { callee := .builtin .append, args := #[s, x], argTypes := #[22, 22] })
    (base : Nat) (v : Value) (l : List Int) (hs : a.eval s = v) (hown : OwnZ w base v l) (xv : Value) (nw : List Int) (hx : a.eval x = xv) (hI : IntsI w xv nw)
    (hlen : l.length + nw.length ≤ 1000000000) (hbase : base ≤ w.heap.size)
    (hK : ∀ v' w', OwnZ w' base v' (l ++ nw) → w.grownBy w' v.ownBlock → (v'.ownBlock = v.ownBlock ∨ v'.ownBlock = some w.heap.size) → wpList Tryd.prog ops Q rest (a.put o.dst v') w') :
    wpList Tryd.prog ops Q (o :: rest) a w := by
  obtain ⟨i0, hi, hz0, hz1, hz2⟩ := parts_int
  have key : ∀ ad c m, xv = .slice (some ad) m c → m = nw.length → (∀ j u, (nw.map vI)[j]? = some u → w.cell? (ad.add j) = some u) → wpList Tryd.prog ops Q (o :: rest) a w := by
    intro ad c m hxv hm hc
    subst hm
    refine wpList_append_own_at w hgd s x 22 ho base 3 i0 (.int .i64 0) 1 8 Tryd.underlying22 hi hz0 hz1 hz2 rfl (by decide) v l.length (l.map vI) hs hown ad nw.length c (nw.map vI) (hx.trans hxv) (by simp) hc (one_ints nw) (by unfold maxLen; omega) (by omega) hbase ?_
    intro v' w' h1 h2 _ h4
    refine hK v' w' ?_ h2 h4
    unfold OwnZ; rw [List.length_append, List.map_append]; exact h1
  obtain ⟨ao, c, rfl, h2, h3, h3', h4⟩ := hI
  cases ao with
  | none =>
    have hn : nw = [] := by
      cases nw with
      | nil => rfl
      | cons z l => obtain ⟨b, off, e, _⟩ := h4 0 z rfl; cases e
    subst hn
    obtain rfl := h3' rfl
    refine wpList_append_own_none hgd s x 22 ho base 3 i0 1 Tryd.underlying22 hi v l.length (l.map vI) hs hown hx ?_
    exact hK v w (by rw [List.append_nil]; exact hown) ⟨rfl, rfl, rfl, Nat.le_refl _, fun _ _ _ => rfl⟩ (.inl rfl)
  | some ad =>
    refine key ad c _ rfl rfl (fun j u hu => ?_)
    rw [List.getElem?_map] at hu
    obtain ⟨z, hz, rfl⟩ := Option.map_eq_some_iff.1 hu
    obtain ⟨b, off, e, _, hc⟩ := h4 j z hz
    cases e
    rw [Addr.add_mid]
    exact hc
end Go.Proofs.YtnagdgkkkkpekabDoor
