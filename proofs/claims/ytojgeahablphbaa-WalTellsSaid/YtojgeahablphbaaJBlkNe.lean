/-
  What is proved here: blocks of unlike types are unlike; how a slice of bytes lies as an element. rows of bytes that a call gathers in a slice.
  Conditions: none. those that each fact names.
-/
import Derived.Test.YtojgeahablphbaaJShaPure
import Derived.Test.YtojgeahablphbaaJChgWorld
namespace Go.Proofs.Ytojgeahablphbaa
open Go.RowKit

theorem Try.info22p : (Try.prog.info? 22).map (fun i => (i.zero, i.size, i.bytes)) = some (some (.slice none 0 0), 1, 24) := by kernel_rfl
/-- Blocks of unlike types are unlike. -/
theorem Blk.ne {w : World} {a b : Nat} {t t' : TypeId} {x y : Array Value} (h : Blk w a t x) (h' : Blk w b t' y) (ht : t ≠ t') : a ≠ b := fun e => by
  subst e
  unfold Blk at h h'
  rw [h] at h'
  injection h' with h'
  injection h' with _ h2
  exact ht h2
end Go.Proofs.Ytojgeahablphbaa
namespace Go.Proofs.Ytojgeahablphbaa
open Go.RowKit

/-- Rows of bytes of the call's own, in a slice of its own. -/
structure Gat (w : World) (base : Nat) (v : Value) (vs : List Value) (rs : List (List UInt8)) : Prop where
  own : w.ownsRow base 22 1 v rs.length vs
  rows : ∀ (i : Nat) u r, vs[i]? = some u → rs[i]? = some r → Own w base u r
theorem Gat.nil (w : World) (base : Nat) : Gat w base (.slice none 0 0) [] [] := ⟨⟨rfl, .inl ⟨rfl, rfl⟩⟩, fun i u r h => by simp at h⟩
theorem Gat.len {w : World} {base : Nat} {v : Value} {vs : List Value} {rs : List (List UInt8)} (h : Gat w base v vs rs) : vs.length = rs.length := by have := h.own.1; omega
theorem Gat.sl {w : World} {base : Nat} {v : Value} {vs : List Value} {rs : List (List UInt8)} (h : Gat w base v vs rs) : ∃ ao c, v = .slice ao rs.length c := by
  rcases h.own.2 with ⟨h1, h2⟩ | ⟨g, cap, cur, h1, _⟩
  · rw [h2]; exact ⟨_, _, h1⟩
  · exact ⟨_, _, h1⟩
theorem ownsRow_chg {S : Nat → Prop} {w w' : World} {base : Nat} {e : TypeId} {v : Value} {n : Nat} {xs : List Value} (h : w.ownsRow base e 1 v n xs) (hc : Chg S w w') (hv : ∀ k, v.ownBlock = some k → ¬ S k) : w'.ownsRow base e 1 v n xs := by
  refine ⟨h.1, ?_⟩
  rcases h.2 with h2 | ⟨g, cap, cur, h1, h2, h3, h4⟩
  · exact .inl h2
  · exact .inr ⟨g, cap, cur, h1, h2, by rw [hc.2 g (Array.getElem?_eq_some_iff.1 h3).1 (hv g (by rw [h1]; rfl))]; exact h3, h4⟩
theorem Gat.chg {S : Nat → Prop} {w w' : World} {base : Nat} {v : Value} {vs : List Value} {rs : List (List UInt8)} (h : Gat w base v vs rs) (hc : Chg S w w') (hS : ∀ q, S q → q < base) : Gat w' base v vs rs :=
  ⟨ownsRow_chg h.own hc (fun k hk e => by have := (World.ownsRow.lt h.own k hk).1; have := hS k e; omega), fun i u r hu hr => (h.rows i u r hu hr).chg hc (fun k hk e => by have := ((h.rows i u r hu hr).blocks k hk).1; have := hS k e; omega)⟩
theorem Gat.below {w w' : World} {B base : Nat} {v : Value} {vs : List Value} {rs : List (List UInt8)} (h : Gat w base v vs rs) (hb : Below B w w') (hB : w.heap.size ≤ B) : Gat w' base v vs rs :=
  ⟨ownsRow_chg h.own (Chg.of_below (S := fun _ => False) hb hB) (fun _ _ h => h), fun i u r hu hr => (h.rows i u r hu hr).below hb hB⟩
/-- What is put behind rows keeps bytes of the call's own. -/
theorem gat_keep {w w' : World} {base : Nat} {v : Value} {vs : List Value} {rs : List (List UInt8)} (hown : Gat w base v vs rs) (h3 : w.grownBy w' v.ownBlock) {u' : Value} {r' : List UInt8} (h : Own w base u' r') : Own w' base u' r' := by
  refine h.grown h3 ?_
  cases hv : v.ownBlock with
  | none => cases u'.ownBlock <;> simp
  | some q =>
    right
    intro e
    rcases h.2 with ⟨h1, _⟩ | ⟨g', cap', cur', h1, _, h4, _⟩
    · rw [h1] at e; cases e
    · rw [h1] at e
      obtain rfl : g' = q := Option.some.inj e
      rcases hown.own.2 with ⟨h5, _⟩ | ⟨g'', cap'', cur'', h5, _, h6, _⟩
      · rw [h5] at hv; cases hv
      · rw [h5] at hv
        obtain rfl : g'' = g' := Option.some.inj hv
        exact Blk.ne (show Blk w g'' 5 cur' from h4) (show Blk w g'' 22 cur'' from h6) (by decide) rfl
/-- append of one more row. -/
theorem app_row (w : World) {ops : Array Oper} {rest : List Oper} {o : Oper} {a : Act} {Q : Exit → Act → World → Prop} (hgd : o.guard = none) (s x : Operand)
    (ho : o.op = .call { callee := .builtin .append, args := #[s, x], argTypes := #[39, 39] })
    (base : Nat) (v : Value) (vs : List Value) (rs : List (List UInt8)) (hs : a.eval s = v) (hown : Gat w base v vs rs) (g c : Nat) (u : Value) (r : List UInt8) (hx : a.eval x = .slice (some ⟨g, 0, none⟩) 1 c) (hc : w.cell? ⟨g, 0, none⟩ = some u) (hu : Own w base u r)
    (hlen : rs.length ≤ 1000000) (hbase : base ≤ w.heap.size)
    (hK : ∀ v' w', Gat w' base v' (vs ++ [u]) (rs ++ [r]) → w.grownBy w' v.ownBlock → wpList Try.prog ops Q rest (a.put o.dst v') w') :
    wpList Try.prog ops Q (o :: rest) a w := by
  obtain ⟨i0, hi, hz0, hz1, hz2⟩ := info_parts Try.info22p
  have hu1 : u.oneCell' = true := by
    obtain ⟨ao, c', rfl⟩ := Seg.shapeD hu.seg
    rfl
  refine wpList_append_own_at w hgd s x 39 ho base 22 i0 (.slice none 0 0) 1 24 Try.underlying39 hi hz0 hz1 hz2 rfl (by decide) v rs.length vs hs hown.own ⟨g, 0, none⟩ 1 c [u] hx rfl (fun j y hy => ?_) (fun y hy => ?_) (by unfold maxLen; omega) (by omega) hbase ?_
  · match j, hy with
    | 0, hy => cases hy; exact hc
    | (j + 1), hy => cases hy
  · rw [show y = u by simpa using hy]; exact hu1
  intro v' w' h2 h3 _ _
  have hkeep : ∀ u' r', Own w base u' r' → Own w' base u' r' := fun u' r' h => by
    refine h.grown h3 ?_
    cases hv : v.ownBlock with
    | none => cases u'.ownBlock <;> simp
    | some q =>
      right
      intro e
      rcases h.2 with ⟨h1, _⟩ | ⟨g', cap', cur', h1, _, h4, _⟩
      · rw [h1] at e; cases e
      · rw [h1] at e
        obtain rfl : g' = q := Option.some.inj e
        rcases hown.own.2 with ⟨h5, _⟩ | ⟨g'', cap'', cur'', h5, _, h6, _⟩
        · rw [h5] at hv; cases hv
        · rw [h5] at hv
          obtain rfl : g'' = g' := Option.some.inj hv
          exact Blk.ne (show Blk w g'' 5 cur' from h4) (show Blk w g'' 22 cur'' from h6) (by decide) rfl
  refine hK v' w' ⟨by rw [List.length_append]; exact h2, fun i u' r' hu' hr' => ?_⟩ h3
  have hl := hown.len
  rcases Nat.lt_or_ge i vs.length with hi' | hi'
  · rw [List.getElem?_append_left hi'] at hu'
    rw [List.getElem?_append_left (by omega)] at hr'
    exact hkeep _ _ (hown.rows i u' r' hu' hr')
  · rw [List.getElem?_append_right hi'] at hu'
    rw [List.getElem?_append_right (by omega), ← hl] at hr'
    match hd : i - vs.length, hu', hr' with
    | 0, hu', hr' =>
      cases hu'; cases hr'
      exact hkeep _ _ hu
    | (j + 1), hu', hr' => simp at hu'
theorem Gat.at {w : World} {base : Nat} {v : Value} {vs : List Value} {rs : List (List UInt8)} (h : Gat w base v vs rs) {k : Nat} (hk : k < rs.length) : ∃ b c a cc, v = .slice (some ⟨b, 0, none⟩) rs.length c ∧ w.cell? ⟨b, k, none⟩ = some (.slice a (rs.getD k []).length cc) ∧ Seg w (.slice a (rs.getD k []).length cc) (rs.getD k []) := by
  have hl := h.len
  have hu : vs[k]? = some (vs[k]'(by omega)) := List.getElem?_eq_getElem (by omega)
  have hr : rs[k]? = some (rs.getD k []) := by rw [List.getD_eq_getElem?_getD, List.getElem?_eq_getElem hk]; rfl
  have ho := h.rows k _ _ hu hr
  obtain ⟨a, cc, e⟩ := Seg.shapeD ho.seg
  obtain ⟨b, c, hv, _, _⟩ := World.ownsRow.form h.own (by omega)
  refine ⟨b, c, a, cc, hv, ?_, e ▸ ho.seg⟩
  have := World.ownsRow.cells h.own (g := b) (by rw [hv]; rfl) k _ hu
  rw [Addr.add_mid, Nat.zero_add] at this
  rw [this, e]

end Go.Proofs.Ytojgeahablphbaa
