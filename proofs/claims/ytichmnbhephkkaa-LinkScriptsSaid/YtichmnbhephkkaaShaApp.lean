/-
  What is proved here: what append does to a slice of bytes of the call's own, and to one that is full, in the words of the other texts.
  Conditions: those that each fact names.
-/
import Derived.Test.YtichmnbhephkkaaProg
import Derived.Test.YtichmnbhephkkaaShaWorld
import Derived.Maps.AppendAt
import Derived.Laws.AppendOwnNone
namespace Go.Proofs.Ytichmnbhephkkaa
open Go.RowKit

theorem Try.info5 : (Try.prog.info? 5).map (fun i => (i.zero, i.size, i.bytes)) = some (some (.int .u8 0), 1, 1) := by kernel_rfl

/-- The value v is a slice of the call's own (its block is base or higher) that holds these bytes. -/
def Own (w : World) (base : Nat) (v : Value) (bs : List UInt8) : Prop := w.ownsRow base 5 1 v bs.length (bs.map v8)
/-- The value x is a slice that holds these bytes. -/
def Seg (w : World) (x : Value) (bs : List UInt8) : Prop := (bs = [] ∧ ∃ ao c, x = .slice ao 0 c ∧ (ao = none → c = 0)) ∨ ∃ b off c, x = .slice (some ⟨b, off, none⟩) bs.length c ∧ bs.length ≤ c ∧ Row w b off bs ∧ b < w.heap.size

theorem Own.alloc {w : World} {base : Nat} {v : Value} {bs : List UInt8} (h : Own w base v bs) (o : Obj) : Own (w.alloc o) base v bs := World.ownsRow.alloc h o
theorem Own.mono {w : World} {base base' : Nat} {v : Value} {bs : List UInt8} (h : Own w base v bs) (hb : base' ≤ base) : Own w base' v bs := by
  refine ⟨h.1, ?_⟩
  rcases h.2 with h2 | ⟨g, cap, cur, h1, h2, h3⟩
  · exact .inl h2
  · exact .inr ⟨g, cap, cur, h1, Nat.le_trans hb h2, h3⟩
theorem Own.form {w : World} {base : Nat} {v : Value} {bs : List UInt8} (h : Own w base v bs) (hn : 0 < bs.length) : ∃ g cap, v = .slice (some ⟨g, 0, none⟩) bs.length cap ∧ base ≤ g ∧ g < w.heap.size ∧ bs.length ≤ cap ∧ Row w g 0 bs := by
  obtain ⟨g, cap, hv, hb, hl⟩ := World.ownsRow.form h hn
  refine ⟨g, cap, hv, hb, hl, ?_, fun j hj => ?_⟩
  · subst hv
    rcases h.2 with ⟨h0, _⟩ | ⟨g', cap', cur, h1, _, _, h4, _⟩
    · cases h0
    · cases h1; exact h4
  · have := World.ownsRow.cells h (g := g) (by rw [hv]; rfl) j (v8 bs[j]) (by simp [hj])
    rwa [Addr.add_mid] at this
theorem Own.seg {w : World} {base : Nat} {v : Value} {bs : List UInt8} (h : Own w base v bs) : Seg w v bs := by
  rcases Nat.eq_zero_or_pos bs.length with h0 | h0
  · obtain rfl := List.eq_nil_of_length_eq_zero h0
    rcases h.2 with ⟨h1, _⟩ | ⟨g, cap, cur, h1, _⟩
    · exact .inl ⟨rfl, none, 0, h1, fun _ => rfl⟩
    · exact .inl ⟨rfl, _, cap, h1, fun h => by cases h⟩
  · obtain ⟨g, cap, hv, _, hl, hc, hr⟩ := h.form h0
    exact .inr ⟨g, 0, cap, hv, hc, hr, hl⟩
theorem Own.drew {w : World} {base : Nat} {v : Value} {bs : List UInt8} (h : Own w base v bs) : Own w.drew base v bs := h
theorem Own.below {w w' : World} {base B : Nat} {v : Value} {bs : List UInt8} (h : Own w base v bs) (hb : Below B w w') (hB : w.heap.size ≤ B) : Own w' base v bs := by
  refine ⟨h.1, ?_⟩
  rcases h.2 with h2 | ⟨g, cap, cur, h1, h2, h3, h4⟩
  · exact .inl h2
  · exact .inr ⟨g, cap, cur, h1, h2, by rw [hb.block g (Nat.lt_of_lt_of_le (Array.getElem?_eq_some_iff.1 h3).1 hB)]; exact h3, h4⟩
theorem Own.grown {w w' : World} {base : Nat} {v : Value} {bs : List UInt8} {row : Option Nat} (h : Own w base v bs) (hg : w.grownBy w' row) (hne : v.ownBlock = none ∨ v.ownBlock ≠ row) : Own w' base v bs := World.ownsRow.kept h hg hne
theorem Seg.below {w w' : World} {B : Nat} {x : Value} {bs : List UInt8} (h : Seg w x bs) (hb : Below B w w') (hB : w.heap.size ≤ B) : Seg w' x bs := by
  rcases h with h | ⟨b, off, c, h1, h2, h3, h4⟩
  · exact .inl h
  · exact .inr ⟨b, off, c, h1, h2, h3.below hb (Nat.lt_of_lt_of_le h4 hB), Nat.lt_of_lt_of_le h4 hb.size⟩
theorem Seg.alloc {w : World} {x : Value} {bs : List UInt8} (h : Seg w x bs) (o : Obj) : Seg (w.alloc o) x bs :=
  h.below ((Below.refl w.heap.size w).alloc (Nat.le_refl _) o) (Nat.le_refl _)
theorem Seg.drew {w : World} {x : Value} {bs : List UInt8} (h : Seg w x bs) : Seg w.drew x bs := h
theorem Seg.of_row {w : World} {b off c n : Nat} {bs : List UInt8} (hr : Row w b off bs) (hn : bs.length = n) (hc : n ≤ c) (hb : b < w.heap.size) : Seg w (.slice (some ⟨b, off, none⟩) n c) bs := by
  subst hn; exact .inr ⟨b, off, c, rfl, hc, hr, hb⟩

/-- append onto a slice of the call's own. -/
theorem app_own (w : World) {ops : Array Oper} {rest : List Oper} {o : Oper} {a : Act} {Q : Exit → Act → World → Prop} (hgd : o.guard = none) (s x : Operand)
    (ho : o.op = .call { callee := .builtin .append, args := #[s, x], argTypes := #[32, 32] })
    (base : Nat) (v : Value) (bs : List UInt8) (hs : a.eval s = v) (hown : Own w base v bs) (xv : Value) (nw : List UInt8) (hx : a.eval x = xv) (hseg : Seg w xv nw)
    (hlen : bs.length + nw.length ≤ 1000000000) (hbase : base ≤ w.heap.size)
    (hK : ∀ v' w', Own w' base v' (bs ++ nw) → w.grownBy w' v.ownBlock → (v'.ownBlock = v.ownBlock ∨ v'.ownBlock = some w.heap.size) → wpList Try.prog ops Q rest (a.put o.dst v') w') :
    wpList Try.prog ops Q (o :: rest) a w := by
  obtain ⟨i0, hi, hz0, hz1, hz2⟩ := info_parts Try.info5
  have key : ∀ ad c m, xv = .slice (some ad) m c → m = nw.length → (∀ j u, (nw.map v8)[j]? = some u → w.cell? (ad.add j) = some u) → wpList Try.prog ops Q (o :: rest) a w := by
    intro ad c m hxv hm hc
    subst hm
    refine wpList_append_own_at w hgd s x 32 ho base 5 i0 (.int .u8 0) 1 1 Try.underlying32 hi hz0 hz1 hz2 rfl (by decide) v bs.length (bs.map v8) hs hown ad nw.length c (nw.map v8) (hx.trans hxv) (by simp) hc (one8l nw) (by unfold maxLen; omega) (by omega) hbase ?_
    intro v' w' h1 h2 _ h4
    refine hK v' w' ?_ h2 h4
    unfold Own; rw [List.length_append, List.map_append]; exact h1
  rcases hseg with ⟨rfl, ao, c, rfl, hn⟩ | ⟨b, off, c, rfl, _, hr, _⟩
  · cases ao with
    | none =>
      obtain rfl := hn rfl
      refine wpList_append_own_none hgd s x 32 ho base 5 i0 1 Try.underlying32 hi v bs.length (bs.map v8) hs hown hx ?_
      exact hK v w (by rw [List.append_nil]; exact hown) ⟨rfl, rfl, rfl, Nat.le_refl _, fun _ _ _ => rfl⟩ (.inl rfl)
    | some ad => exact key ad c 0 rfl rfl (fun j u h => by simp at h)
  · exact key ⟨b, off, none⟩ c _ rfl rfl hr.at

/-- append onto a slice that is full. -/
theorem app_grow (w : World) {ops : Array Oper} {rest : List Oper} {o : Oper} {a : Act} {Q : Exit → Act → World → Prop} (hgd : o.guard = none) (s x : Operand)
    (ho : o.op = .call { callee := .builtin .append, args := #[s, x], argTypes := #[32, 32] })
    (b off : Nat) (bs : List UInt8) (hs : a.eval s = .slice (some ⟨b, off, none⟩) bs.length bs.length) (hr : Row w b off bs) (b' off' c : Nat) (nw : List UInt8) (hx : a.eval x = .slice (some ⟨b', off', none⟩) nw.length c) (hr' : Row w b' off' nw)
    (hm : 0 < nw.length) (hlen : bs.length + nw.length ≤ 1000000000)
    (hK : ∀ v' w', Own w' w.heap.size v' (bs ++ nw) → w.grownBy w' none → wpList Try.prog ops Q rest (a.put o.dst v') w') :
    wpList Try.prog ops Q (o :: rest) a w := by
  obtain ⟨i0, hi, hz0, hz1, hz2⟩ := info_parts Try.info5
  refine wpList_append_grows w hgd s x 32 ho 5 i0 (.int .u8 0) 1 1 Try.underlying32 hi hz0 hz1 hz2 rfl (by decide) (some ⟨b, off, none⟩) bs.length bs.length (bs.map v8) hs (fun h => by cases h) (by simp) (fun a h => by cases h; exact hr.at) ⟨b', off', none⟩ nw.length c (nw.map v8) hx (by simp) hr'.at (one8l nw) (by omega) (by unfold maxLen; omega) (by omega) ?_
  intro v' w' h1 h2
  refine hK v' w' ?_ h2
  unfold Own; rw [List.length_append, List.map_append]; exact h1

theorem Own.blocks {w : World} {base : Nat} {v : Value} {bs : List UInt8} (h : Own w base v bs) : ∀ k, v.ownBlock = some k → base ≤ k ∧ k < w.heap.size := World.ownsRow.lt h
theorem row_one (w : World) (x : UInt8) (t : TypeId) : Row (w.alloc (.cells #[v8 x] t)) w.heap.size 0 [x] := fun j hj => by
  obtain rfl : j = 0 := by simp at hj; omega
  simp

end Go.Proofs.Ytichmnbhephkkaa
