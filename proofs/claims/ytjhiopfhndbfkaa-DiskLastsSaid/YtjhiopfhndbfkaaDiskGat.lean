/-
  What is proved here: rows of bytes that a call gathers in a slice; plain facts on what a crash leaves of a sector.
  Conditions: those that each fact names.
-/
import Derived.Test.YtjhiopfhndbfkaaPDiskCrash
import Derived.Test.YtjhiopfhndbfkaaRefDiskNew
namespace Go.Proofs.Ytjhiopfhndbfkaa
open Go.RowKit Go.Maps

/-- Rows of bytes of the call's own, in a slice of its own. -/
structure Gat (w : World) (base : Nat) (v : Value) (vs : List Value) (rs : List (List UInt8)) : Prop where
  own : w.ownsRow base 35 1 v rs.length vs
  rows : ∀ (i : Nat) u r, vs[i]? = some u → rs[i]? = some r → Own w base u r
theorem Gat.nil (w : World) (base : Nat) : Gat w base (.slice none 0 0) [] [] := ⟨⟨rfl, .inl ⟨rfl, rfl⟩⟩, fun i u r h => by simp at h⟩
theorem Gat.len {w : World} {base : Nat} {v : Value} {vs : List Value} {rs : List (List UInt8)} (h : Gat w base v vs rs) : vs.length = rs.length := by have := h.own.1; omega
theorem Gat.sl {w : World} {base : Nat} {v : Value} {vs : List Value} {rs : List (List UInt8)} (h : Gat w base v vs rs) : ∃ ao c, v = .slice ao rs.length c := by
  rcases h.own.2 with ⟨h1, h2⟩ | ⟨g, cap, cur, h1, _⟩
  · rw [h2]; exact ⟨_, _, h1⟩
  · exact ⟨_, _, h1⟩
theorem ownsRow_chg {S : Nat → Prop} {w w' : World} {base : Nat} {e : TypeId} {v : Value} {n : Nat} {xs : List Value} (h : w.ownsRow base e 1 v n xs) (hc : Chg S w w') (hv : ∀ k, v.ownBlock = some k → ¬ S k) : w'.ownsRow base e 1 v n xs := by
  refine ⟨h.1, ?_⟩
  rcases h.2 with h2 | ⟨g, cap, cur, h1, h2, h3, h4⟩
  · exact .inl h2
  · exact .inr ⟨g, cap, cur, h1, h2, by rw [hc.2 g (Array.getElem?_eq_some_iff.1 h3).1 (hv g (by rw [h1]; rfl))]; exact h3, h4⟩
theorem Gat.chg {S : Nat → Prop} {w w' : World} {base : Nat} {v : Value} {vs : List Value} {rs : List (List UInt8)} (h : Gat w base v vs rs) (hc : Chg S w w') (hS : ∀ q, S q → q < base) : Gat w' base v vs rs :=
  ⟨ownsRow_chg h.own hc (fun k hk e => by have := (World.ownsRow.lt h.own k hk).1; have := hS k e; omega), fun i u r hu hr => (h.rows i u r hu hr).chg hc (fun k hk e => by have := ((h.rows i u r hu hr).blocks k hk).1; have := hS k e; omega)⟩
theorem Gat.below {w w' : World} {B base : Nat} {v : Value} {vs : List Value} {rs : List (List UInt8)} (h : Gat w base v vs rs) (hb : Below B w w') (hB : w.heap.size ≤ B) : Gat w' base v vs rs :=
  ⟨ownsRow_chg h.own (Chg.of_below (S := fun _ => False) hb hB) (fun _ _ h => h), fun i u r hu hr => (h.rows i u r hu hr).below hb hB⟩
/-- append of one more row. -/
theorem app_row (w : World) {ops : Array Oper} {rest : List Oper} {o : Oper} {a : Act} {Q : Exit → Act → World → Prop} (hgd : o.guard = none) (s x : Operand)
    (ho : o.op = .call { callee := .builtin .append, args := #[s, x], argTypes := #[42, 42] })
    (base : Nat) (v : Value) (vs : List Value) (rs : List (List UInt8)) (hs : a.eval s = v) (hown : Gat w base v vs rs) (g c : Nat) (u : Value) (r : List UInt8) (hx : a.eval x = .slice (some ⟨g, 0, none⟩) 1 c) (hc : w.cell? ⟨g, 0, none⟩ = some u) (hu : Own w base u r)
    (hlen : rs.length ≤ 1000000) (hbase : base ≤ w.heap.size)
    (hK : ∀ v' w', Gat w' base v' (vs ++ [u]) (rs ++ [r]) → w.grownBy w' v.ownBlock → wpList Try.prog ops Q rest (a.put o.dst v') w') :
    wpList Try.prog ops Q (o :: rest) a w := by
  obtain ⟨i0, hi, hz0, hz1, hz2⟩ := info_parts Try.info35p
  have hu1 : u.oneCell' = true := by
    obtain ⟨ao, c', rfl⟩ := Seg.shapeD hu.seg
    rfl
  refine wpList_append_own_at w hgd s x 42 ho base 35 i0 (.slice none 0 0) 1 24 Try.underlying42 hi hz0 hz1 hz2 rfl (by decide) v rs.length vs hs hown.own ⟨g, 0, none⟩ 1 c [u] hx rfl (fun j y hy => ?_) (fun y hy => ?_) (by unfold maxLen; omega) (by omega) hbase ?_
  · match j, hy with
    | 0, hy => cases hy; exact hc
    | (j + 1), hy => cases hy
  · rw [show y = u by simpa using hy]; exact hu1
  intro v' w' h2 h3 _ _
  have hkeep : ∀ u' r', Own w base u' r' → Own w' base u' r' := fun u' r' h => by
    refine h.grown h3 ?_
    cases hv : v.ownBlock with
    | none => cases u'.ownBlock <;> simp
    | some q =>
      right
      intro e
      rcases h.2 with ⟨h1, _⟩ | ⟨g', cap', cur', h1, _, h4, _⟩
      · rw [h1] at e; cases e
      · rw [h1] at e
        obtain rfl : g' = q := Option.some.inj e
        rcases hown.own.2 with ⟨h5, _⟩ | ⟨g'', cap'', cur'', h5, _, h6, _⟩
        · rw [h5] at hv; cases hv
        · rw [h5] at hv
          obtain rfl : g'' = g' := Option.some.inj hv
          exact Blk.ne (show Blk w g'' 5 cur' from h4) (show Blk w g'' 35 cur'' from h6) (by decide) rfl
  refine hK v' w' ⟨by rw [List.length_append]; exact h2, fun i u' r' hu' hr' => ?_⟩ h3
  have hl := hown.len
  rcases Nat.lt_or_ge i vs.length with hi' | hi'
  · rw [List.getElem?_append_left hi'] at hu'
    rw [List.getElem?_append_left (by omega)] at hr'
    exact hkeep _ _ (hown.rows i u' r' hu' hr')
  · rw [List.getElem?_append_right hi'] at hu'
    rw [List.getElem?_append_right (by omega), ← hl] at hr'
    match hd : i - vs.length, hu', hr' with
    | 0, hu', hr' =>
      cases hu'; cases hr'
      exact hkeep _ _ hu
    | (j + 1), hu', hr' => simp at hu'
theorem Gat.at {w : World} {base : Nat} {v : Value} {vs : List Value} {rs : List (List UInt8)} (h : Gat w base v vs rs) {k : Nat} (hk : k < rs.length) : ∃ b c a cc, v = .slice (some ⟨b, 0, none⟩) rs.length c ∧ w.cell? ⟨b, k, none⟩ = some (.slice a (rs.getD k []).length cc) ∧ Seg w (.slice a (rs.getD k []).length cc) (rs.getD k []) := by
  have hl := h.len
  have hu : vs[k]? = some (vs[k]'(by omega)) := List.getElem?_eq_getElem (by omega)
  have hr : rs[k]? = some (rs.getD k []) := by rw [List.getD_eq_getElem?_getD, List.getElem?_eq_getElem hk]; rfl
  have ho := h.rows k _ _ hu hr
  obtain ⟨a, cc, e⟩ := Seg.shapeD ho.seg
  obtain ⟨b, c, hv, _, _⟩ := World.ownsRow.form h.own (by omega)
  refine ⟨b, c, a, cc, hv, ?_, e ▸ ho.seg⟩
  have := World.ownsRow.cells h.own (g := b) (by rw [hv]; rfl) k _ hu
  rw [Addr.add_mid, Nat.zero_add] at this
  rw [this, e]

/-! ### what a crash leaves of a sector -/
theorem crashTo_at (N : Nat → Nat) : ∀ (l : List Nat) (j i k n : Nat) (s : DS), l.Pairwise (· < ·) → (∀ q ∈ l, q < n) → s.now.length = n → l[i]? = some k → (crashTo N j l s).now.getD k [] = tornRow s k (N (j + i))
  | [], _, _, _, _, _, _, _, _, h => by simp at h
  | k0 :: l, j, 0, k, n, s, hp, hn, hl, h => by
    obtain rfl : k0 = k := by simpa using h
    have hni : k0 ∉ l := fun hm => by have := (List.pairwise_cons.1 hp).1 k0 hm; omega
    show (crashTo N (j + 1) l (crashOne s k0 (N j))).now.getD k0 [] = _
    rw [(crashTo_other N l (j + 1) _ k0 hni).1]
    show (s.now.set k0 (tornRow s k0 (N j))).getD k0 [] = _
    rw [getD_set _ _ _ _ _ (by rw [hl]; exact hn k0 List.mem_cons_self), if_pos rfl]
    rfl
  | k0 :: l, j, i + 1, k, n, s, hp, hn, hl, h => by
    have h' : l[i]? = some k := by simpa using h
    have hne : k ≠ k0 := fun e => by have := (List.pairwise_cons.1 hp).1 k (List.mem_of_getElem? h'); omega
    have ih := crashTo_at N l (j + 1) i k n (crashOne s k0 (N j)) (List.pairwise_cons.1 hp).2 (fun q hq => hn q (List.mem_cons_of_mem _ hq)) (by show (s.now.set _ _).length = n; rw [List.length_set]; exact hl) h'
    show (crashTo N (j + 1) l (crashOne s k0 (N j))).now.getD k [] = _
    rw [ih, show j + 1 + i = j + (i + 1) by omega]
    unfold tornRow
    show ((s.now.set k0 _).getD k []).take _ ++ ((s.sure.set k0 _).getD k []).drop _ = _
    rw [getD_set_ne _ _ _ _ _ hne, getD_set_ne _ _ _ _ _ hne]
/-- The sector that is torn. -/
def tornAt (s : DS) (torn : Int) (k : Nat) : Prop := ∃ i : Nat, (i : Int) = torn ∧ (dirtyS s)[i]? = some k
theorem tornAt_one {s : DS} {torn : Int} {j k : Nat} (h : tornAt s torn j) (h' : tornAt s torn k) : j = k := by
  obtain ⟨i, e, h⟩ := h
  obtain ⟨i', e', h'⟩ := h'
  obtain rfl : i = i' := by omega
  rw [h] at h'
  exact Option.some.inj h'
theorem crash_row {s : DS} {n : Nat} (hs : s.ok n) (stay : List Bool) (torn cut : Int) {k : Nat} (hk : k < n) :
    (crashS s stay torn cut).now.getD k [] = s.sure.getD k [] ∨ (crashS s stay torn cut).now.getD k [] = s.now.getD k [] ∨ ((crashS s stay torn cut).now.getD k [] = (s.now.getD k []).take (max 0 (min cut 128)).toNat ++ (s.sure.getD k []).drop (max 0 (min cut 128)).toNat ∧ tornAt s torn k) := by
  have hnl := getD_len hs.nows (k := k) (by rw [hs.now]; exact hk)
  by_cases hm : k ∈ dirtyS s
  · obtain ⟨i, hi⟩ := List.getElem?_of_mem hm
    have e := crashTo_at (stayN stay torn cut) (dirtyS s) 0 i k n s (dirtyAt_rises s.dirt 0) (fun q hq => by have := dirtyAt_lt s.dirt 0 q hq; rw [hs.dirt] at this; omega) hs.now hi
    rw [Nat.zero_add] at e
    have e2 : (crashS s stay torn cut).now.getD k [] = tornRow s k (stayN stay torn cut i) := e
    rw [e2]
    have hsl := getD_len hs.sures (k := k) (by rw [hs.sure]; exact hk)
    unfold tornRow stayN
    by_cases ht : (i : Int) = torn
    · rw [if_pos ht]
      exact .inr (.inr ⟨rfl, ⟨i, ht, hi⟩⟩)
    · rw [if_neg ht]
      by_cases hst : stay[i]? = some true
      · rw [if_pos hst]
        right; left
        rw [List.take_of_length_le (by omega), List.drop_of_length_le (by omega), List.append_nil]
      · rw [if_neg hst]
        left
        rfl
  · right; left
    exact (crashTo_other _ _ _ _ _ hm).1
theorem mayS_sure (s : DS) : (mayS s).2.sure = s.sure := by
  rw [mayS_eq]
  split
  · rfl
  · split
    · rfl
    · split <;> rfl
theorem writeS_sure (s : DS) (k : Int) (b : List UInt8) : (writeS s k b).2.sure = s.sure := by
  unfold writeS
  split
  · rfl
  · split
    · exact mayS_sure s
    · exact mayS_sure s
end Go.Proofs.Ytjhiopfhndbfkaa
