/-
  What is proved here: pairs that a call gathers.
  Conditions: those that each fact names.
-/
import Derived.Test.YtbegphfideopoaaGreatJStoreAwake
namespace Go.Proofs.YtbegphfideopoaaGreat
open Go.RowKit Go.Maps

/-- Bytes beside a row. -/
def SegR (w : World) (base : Nat) (row x : Value) (bs : List UInt8) : Prop := Seg w x bs ∧ (0 < bs.length → ∀ q, x.ownBlock = some q → base ≤ q ∧ row.ownBlock ≠ some q)
structure Pairs8 (w : World) (base : Nat) (v : Value) (cells : List Value) (l : PM) : Prop where
  own : w.ownsRow base 56 2 v l.length cells
  rows : ∀ i p, l[i]? = some p → ∃ ka kc va vc, cells[2 * i]? = some (.slice ka p.1.length kc) ∧ cells[2 * i + 1]? = some (.slice va p.2.length vc) ∧ SegR w base v (.slice ka p.1.length kc) p.1 ∧ SegR w base v (.slice va p.2.length vc) p.2
theorem Pairs8.nil (w : World) (base : Nat) : Pairs8 w base (.slice none 0 0) [] [] := ⟨⟨rfl, .inl ⟨rfl, rfl⟩⟩, fun i p h => by simp at h⟩
theorem Pairs8.len {w : World} {base : Nat} {v : Value} {cells : List Value} {l : PM} (h : Pairs8 w base v cells l) : cells.length = 2 * l.length := by have := h.own.1; omega
theorem Pairs8.sl {w : World} {base : Nat} {v : Value} {cells : List Value} {l : PM} (h : Pairs8 w base v cells l) : ∃ ao c, v = .slice ao l.length c := by
  rcases h.own.2 with ⟨h1, h2⟩ | ⟨g, cap, cur, h1, _⟩
  · rw [h2]; exact ⟨_, _, h1⟩
  · exact ⟨_, _, h1⟩
theorem ownsRow_chg8 {S : Nat → Prop} {w w' : World} {base size : Nat} {e : TypeId} {v : Value} {n : Nat} {xs : List Value} (h : w.ownsRow base e size v n xs) (hc : Chg S w w') (hv : ∀ k, v.ownBlock = some k → ¬ S k) : w'.ownsRow base e size v n xs := by
  refine ⟨h.1, ?_⟩
  rcases h.2 with h2 | ⟨g, cap, cur, h1, h2, h3, h4⟩
  · exact .inl h2
  · exact .inr ⟨g, cap, cur, h1, h2, by rw [hc.2 g (Array.getElem?_eq_some_iff.1 h3).1 (hv g (by rw [h1]; rfl))]; exact h3, h4⟩
theorem SegR.chg {S : Nat → Prop} {w w' : World} {base : Nat} {row x : Value} {bs : List UInt8} (h : SegR w base row x bs) (hc : Chg S w w') (hS : ∀ q, base ≤ q → row.ownBlock ≠ some q → ¬ S q) : SegR w' base row x bs :=
  ⟨h.1.chg hc (fun h0 q hq => hS q (h.2 h0 q hq).1 (h.2 h0 q hq).2), h.2⟩
theorem Pairs8.chg {S : Nat → Prop} {w w' : World} {base : Nat} {v : Value} {cells : List Value} {l : PM} (h : Pairs8 w base v cells l) (hc : Chg S w w') (hS : ∀ q, S q → q < base) : Pairs8 w' base v cells l :=
  ⟨ownsRow_chg8 h.own hc (fun k hk e => by have := (World.ownsRow.lt h.own k hk).1; have := hS k e; omega), fun i p hp => by
    obtain ⟨ka, kc, va, vc, h1, h2, h3, h4⟩ := h.rows i p hp
    exact ⟨ka, kc, va, vc, h1, h2, h3.chg hc (fun q hq _ e => by have := hS q e; omega), h4.chg hc (fun q hq _ e => by have := hS q e; omega)⟩⟩
theorem Pairs8.below {w w' : World} {base : Nat} {v : Value} {cells : List Value} {l : PM} (h : Pairs8 w base v cells l) (hb : Below w.heap.size w w') : Pairs8 w' base v cells l :=
  h.chg (S := fun _ => False) (Chg.of_below hb (Nat.le_refl _)) (fun _ h => h.elim)
theorem seg_lt8 {w : World} {x : Value} {bs : List UInt8} (h : Seg w x bs) (h0 : 0 < bs.length) {q : Nat} (hq : x.ownBlock = some q) : q < w.heap.size := by
  rcases h with ⟨rfl, _⟩ | ⟨b, off, c, rfl, _, _, h4⟩
  · cases h0
  · cases hq; exact h4
theorem info_pair : (Tryz.prog.info? 56).map (fun i => (i.zero, i.size, i.bytes)) = some (some (.agg #[.slice none 0 0, .slice none 0 0]), 2, 48) := by kernel_rfl
theorem under_pairs : Tryz.prog.underlying 32 = some (.slice 56) := by kernel_rfl
/-- One more pair. -/
theorem app_pair {w : World} {base : Nat} {v : Value} {cells : List Value} {l : PM} (h : Pairs8 w base v cells l) (g c : Nat) (p : List UInt8 × List UInt8) (ka va : Option Addr) (kc vc : Nat) (c0 : w.cell? ⟨g, 0, none⟩ = some (.slice ka p.1.length kc)) (c1 : w.cell? ⟨g, 1, none⟩ = some (.slice va p.2.length vc))
    (s1 : SegR w base v (.slice ka p.1.length kc) p.1) (s2 : SegR w base v (.slice va p.2.length vc) p.2) (hlen : l.length ≤ 1000000) (hbase : base ≤ w.heap.size) :
    ∃ v' w', (∀ ty, (Builtin.append_ #[32, 32] ty #[v, .slice (some ⟨g, 0, none⟩) 1 c]).run Tryz.prog w = .ok v' w') ∧ Pairs8 w' base v' (cells ++ [.slice ka p.1.length kc, .slice va p.2.length vc]) (l ++ [p]) ∧ w.grownBy w' v.ownBlock := by
  obtain ⟨i0, hi, hz0, hz1, hz2⟩ := info_parts info_pair
  obtain ⟨v', w', h0, h2, h3, _, h5⟩ := run_append_own_at (P := Tryz.prog) w base 32 32 56 i0 _ 2 48 under_pairs hi hz0 hz1 hz2 rfl (by decide) v l.length cells h.own ⟨g, 0, none⟩ 1 c [.slice ka p.1.length kc, .slice va p.2.length vc] rfl (fun j y hy => by
    match j, hy with
    | 0, hy => cases hy; exact c0
    | 1, hy => cases hy; exact c1
    | (j + 2), hy => simp at hy) (fun y hy => by
      simp only [List.mem_cons, List.not_mem_nil, or_false] at hy
      rcases hy with rfl | rfl <;> rfl) (by unfold maxLen; omega) (by omega) hbase
  have key : ∀ {x : Value} {bs : List UInt8}, SegR w base v x bs → SegR w' base v' x bs := fun {x bs} hs => by
    have hc : Chg (fun q => v.ownBlock = some q) w w' := Chg.of_grown h3 (fun k hk => hk)
    refine ⟨hs.1.chg hc (fun h0 q hq => (hs.2 h0 q hq).2), fun h0 q hq => ⟨(hs.2 h0 q hq).1, ?_⟩⟩
    rcases h5 with e | e
    · rw [e]; exact (hs.2 h0 q hq).2
    · rw [e]
      intro e2
      have := seg_lt8 hs.1 h0 hq
      cases e2
      omega
  refine ⟨v', w', fun ty => h0, ⟨?_, fun i r hr => ?_⟩, h3⟩
  · rw [List.length_append]; exact h2
  · have hl := h.len
    rcases Nat.lt_trichotomy i l.length with hlt | heq | hgt
    · rw [List.getElem?_append_left hlt] at hr
      obtain ⟨ka', kc', va', vc', e1, e2, e3, e4⟩ := h.rows i r hr
      exact ⟨ka', kc', va', vc', by rw [List.getElem?_append_left (by omega)]; exact e1, by rw [List.getElem?_append_left (by omega)]; exact e2, key e3, key e4⟩
    · subst heq
      rw [List.getElem?_append_right (Nat.le_refl _), Nat.sub_self] at hr
      cases hr
      refine ⟨ka, kc, va, vc, ?_, ?_, key s1, key s2⟩
      · rw [List.getElem?_append_right (by omega), hl, Nat.sub_self]; rfl
      · rw [List.getElem?_append_right (by omega), hl, show 2 * l.length + 1 - 2 * l.length = 1 by omega]; rfl
    · rw [List.getElem?_eq_none (by simp; omega)] at hr
      cases hr
theorem app_ran (w w' : World) {ops : Array Oper} {rest : List Oper} {o : Oper} {a : Act} {Q : Exit → Act → World → Prop} (hgd : o.guard = none) (s x : Operand) (t : TypeId) (ho : o.op = .call { callee := .builtin .append, args := #[s, x], argTypes := #[t, t] }) (vs vx v' : Value) (hs : a.eval s = vs) (hx : a.eval x = vx)
    (hr : ∀ ty, (Builtin.append_ #[t, t] ty #[vs, vx]).run Tryz.prog w = .ok v' w') (h : wpList Tryz.prog ops Q rest (a.put o.dst v') w') : wpList Tryz.prog ops Q (o :: rest) a w := by
  refine wpList_plain hgd fun K hK => ?_
  unfold Oper.wp execOp
  simp only [ho, resolve, invoke, builtin, Sem.run_bind, Sem.run_pure, Result.andThen_ok, List.map_toArray, List.map_cons, List.map_nil, hs, hx, hr]
  exact hK _ _ h
/-- Pairs that are read. -/
def PairsIn (w : World) (v : Value) (l : PM) : Prop := ∃ ao c, v = .slice ao l.length c ∧ ∀ i p, l[i]? = some p → ∃ b ka kc va vc, ao = some ⟨b, 0, none⟩ ∧ w.cell? ⟨b, 2 * i, none⟩ = some (.slice ka p.1.length kc) ∧ w.cell? ⟨b, 2 * i + 1, none⟩ = some (.slice va p.2.length vc) ∧ Seg w (.slice ka p.1.length kc) p.1 ∧ Seg w (.slice va p.2.length vc) p.2 ∧ b < w.heap.size
theorem Pairs8.read {w : World} {base : Nat} {v : Value} {cells : List Value} {l : PM} (h : Pairs8 w base v cells l) : PairsIn w v l := by
  obtain ⟨ao, c, rfl⟩ := h.sl
  refine ⟨ao, c, rfl, fun i p hp => ?_⟩
  have hi : i < l.length := (List.getElem?_eq_some_iff.1 hp).1
  obtain ⟨ka, kc, va, vc, e1, e2, e3, e4⟩ := h.rows i p hp
  obtain ⟨g, cap, he, hb, hl⟩ := World.ownsRow.form h.own (by omega)
  cases he
  have hc : ∀ (j : Nat) u, cells[j]? = some u → w.cell? ⟨g, j, none⟩ = some u := fun j u hu => by
    have := World.ownsRow.cells h.own (g := g) rfl j u hu
    rwa [Addr.add_mid, Nat.zero_add] at this
  exact ⟨g, ka, kc, va, vc, rfl, hc _ _ e1, hc _ _ e2, e3.1, e4.1, hl⟩
theorem PairsIn.below {w w' : World} {v : Value} {l : PM} (h : PairsIn w v l) (hb : Below w.heap.size w w') : PairsIn w' v l := by
  obtain ⟨ao, c, rfl, h1⟩ := h
  refine ⟨ao, c, rfl, fun i p hp => ?_⟩
  obtain ⟨b, ka, kc, va, vc, e0, e1, e2, e3, e4, e5⟩ := h1 i p hp
  exact ⟨b, ka, kc, va, vc, e0, (hb.cell (p := ⟨b, 2 * i, none⟩) e5).trans e1, (hb.cell (p := ⟨b, 2 * i + 1, none⟩) e5).trans e2, e3.below hb (Nat.le_refl _), e4.below hb (Nat.le_refl _), Nat.lt_of_lt_of_le e5 hb.size⟩
/-- The pairs whose keys begin so. -/
def rangeM (begin : List UInt8) (m : PM) : PM := m.filter (fun p => begin.isPrefixOf p.1)
theorem keysB_range (begin : List UInt8) (m : PM) : keysB begin m = (rangeM begin m).map (·.1) := by
  unfold keysB rangeM keysM
  rw [List.filter_map]
  rfl
theorem range_nil (m : PM) : rangeM [] m = m := by
  unfold rangeM
  exact List.filter_eq_self.2 (fun _ _ => rfl)
theorem elem_strs : Tryz.prog.elem 90 = 9 := by kernel_rfl
theorem size_str8 (w : World) : (sizeOf 9).run Tryz.prog w = .ok 1 w := by kernel_rfl
theorem slice_strs (ao : Option Addr) (len c n : Nat) (h : n ≤ c) (w : World) : (Instr.slice 90 (.slice ao len c) none (some (.int .i64 (n : Int))) none).run Tryz.prog w = .ok (.slice ao n c) w := by
  rw [run_slice_h w 90 ao len c (by rw [elem_strs]; exact Tryz.underlying90) .i64 n (by omega) (by omega), elem_strs, size_str8]
  simp only [Result.andThen_ok, sliced, Int.toNat_natCast, Nat.zero_mul, add_zero_addrD, Nat.sub_zero, ite_self]
end Go.Proofs.YtbegphfideopoaaGreat
