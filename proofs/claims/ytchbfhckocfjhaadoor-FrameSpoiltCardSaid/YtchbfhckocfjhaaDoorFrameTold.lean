/-
  What is proved here: a slice of slices of bytes of the call's own that grows, beside a reader that writes its own blocks.
  Conditions: those that each fact names.
-/
import Derived.Test.YtchbfhckocfjhaaDoorFrameRd
namespace Go.Proofs.YtchbfhckocfjhaaDoor
open Go.RowKit

theorem Tryd.info22 : (Tryd.prog.info? 22).map (fun i => (i.zero, i.size, i.bytes)) = some (some (.slice none 0 0), 1, 24) := by kernel_rfl
/-- The value x is a slice that holds these values. -/
def SegV (w : World) (x : Value) (ys : List Value) : Prop := (ys = [] ∧ ∃ ao c, x = .slice ao 0 c ∧ (ao = none → c = 0)) ∨ ∃ b off c, x = .slice (some ⟨b, off, none⟩) ys.length c ∧ b < w.heap.size ∧ ys.length ≤ c ∧ ∀ (j : Nat) u, ys[j]? = some u → w.cell? ⟨b, off + j, none⟩ = some u
theorem SegV.shape {w : World} {x : Value} {ys : List Value} (h : SegV w x ys) : ∃ ao c, x = .slice ao ys.length c := by
  rcases h with ⟨rfl, ao', c', h, _⟩ | ⟨b, off, c', h, _⟩
  · exact ⟨_, _, h⟩
  · exact ⟨_, _, h⟩
/-- append onto a slice of slices of the call's own. -/
theorem app_rows (w : World) {ops : Array Oper} {rest : List Oper} {o : Oper} {a : Act} {Q : Exit → Act → World → Prop} (hgd : o.guard = none) (s x : Operand)
    (ho : o.op = .call { callee := .builtin .append, args := #[s, x], argTypes := #[28, 28] })
    (base : Nat) (v : Value) (vs : List Value) (hs : a.eval s = v) (hown : w.ownsRow base 22 1 v vs.length vs) (xv : Value) (nw : List Value) (hx : a.eval x = xv) (hseg : SegV w xv nw) (h1 : ∀ u ∈ nw, u.oneCell' = true)
    (hlen : vs.length + nw.length ≤ 1000000000) (hbase : base ≤ w.heap.size)
    (hK : ∀ v' w', w'.ownsRow base 22 1 v' (vs ++ nw).length (vs ++ nw) → w.grownBy w' v.ownBlock → (v'.ownBlock = v.ownBlock ∨ v'.ownBlock = some w.heap.size) → wpList Tryd.prog ops Q rest (a.put o.dst v') w') :
    wpList Tryd.prog ops Q (o :: rest) a w := by
  obtain ⟨i0, hi, hz0, hz1, hz2⟩ := info_parts Tryd.info22
  have key : ∀ ad c m, xv = .slice (some ad) m c → m = nw.length → (∀ j u, nw[j]? = some u → w.cell? (ad.add j) = some u) → wpList Tryd.prog ops Q (o :: rest) a w := by
    intro ad c m hxv hm hc
    subst hm
    refine wpList_append_own_at w hgd s x 28 ho base 22 i0 (.slice none 0 0) 1 24 Tryd.underlying28 hi hz0 hz1 hz2 rfl (by decide) v vs.length vs hs hown ad nw.length c nw (hx.trans hxv) (by simp) hc h1 (by unfold maxLen; omega) (by omega) hbase ?_
    intro v' w' g1 g2 _ g4
    refine hK v' w' ?_ g2 g4
    rw [List.length_append]; exact g1
  rcases hseg with ⟨rfl, ao, c, rfl, hn⟩ | ⟨b, off, c, rfl, _, _, hr⟩
  · cases ao with
    | none =>
      obtain rfl := hn rfl
      refine wpList_append_own_none hgd s x 28 ho base 22 i0 1 Tryd.underlying28 hi v vs.length vs hs hown hx ?_
      exact hK v w (by rw [List.append_nil]; exact hown) ⟨rfl, rfl, rfl, Nat.le_refl _, fun _ _ _ => rfl⟩ (.inl rfl)
    | some ad => exact key ad c 0 rfl rfl (fun j u h => by simp at h)
  · exact key ⟨b, off, none⟩ c _ rfl rfl (fun j u h => by rw [Addr.add_mid]; exact hr j u h)

/-- A slice's block is not that of the other one. -/
def Off (v hv : Value) : Prop := ∀ k, v.ownBlock = some k → hv.ownBlock ≠ some k
/-- A slice of slices of the call's own, each of bytes of its own, none of them a reader's. -/
structure Told (w : World) (lo : Nat) (tv hv : Value) (vs : List Value) (L : List (List UInt8)) : Prop where
  row : w.ownsRow lo 22 1 tv vs.length vs
  len : vs.length = L.length
  each : ∀ (j : Nat) v b, vs[j]? = some v → L[j]? = some b → Own w lo v b ∧ Off v hv
theorem row_blocks {w : World} {lo : Nat} {e : TypeId} {tv : Value} {n : Nat} {vs : List Value} (h : w.ownsRow lo e 1 tv n vs) : ∀ k, tv.ownBlock = some k → lo ≤ k ∧ k < w.heap.size := World.ownsRow.lt h
theorem Told.nil (w : World) (lo : Nat) (hv : Value) : Told w lo (.slice none 0 0) hv [] [] := ⟨⟨rfl, .inl ⟨rfl, rfl⟩⟩, rfl, fun j v b h => by simp at h⟩
/-- Rows of unlike types are not one. -/
theorem rows_apart {w : World} {lo lo' : Nat} {tv hv : Value} {n : Nat} {vs : List Value} {bs : List UInt8} (h : w.ownsRow lo 22 1 tv n vs) (hO : Own w lo' hv bs) : ∀ k, tv.ownBlock = some k → hv.ownBlock ≠ some k := by
  intro k hk e
  rcases h.2 with ⟨rfl, _⟩ | ⟨b, cap, cur, rfl, _, hgb, _⟩
  · simp [Value.ownBlock] at hk
  · obtain rfl : b = k := by simpa [Value.ownBlock] using hk
    exact (show Blk w b 22 cur from hgb).not_row (by decide) hO e
theorem row_blk {w : World} {lo g : Nat} {t : TypeId} {tv : Value} {n : Nat} {vs : List Value} {arr : Array Value} (h : w.ownsRow lo 22 1 tv n vs) (hB : Blk w g t arr) (ht : t ≠ 22) : tv.ownBlock ≠ some g := by
  rcases h.2 with ⟨rfl, _⟩ | ⟨b, cap, cur, rfl, _, hgb, _⟩
  · simp [Value.ownBlock]
  · intro e'
    obtain rfl : b = g := by simpa [Value.ownBlock] using e'
    have := (show w.heap[b]? = _ from hB).symm.trans hgb
    simp at this
    exact ht this.2
theorem row_chg {S : Nat → Prop} {w w' : World} {lo n : Nat} {e : TypeId} {tv : Value} {vs : List Value} (h : w.ownsRow lo e 1 tv n vs) (hc : Chg S w w') (hv : ∀ k, tv.ownBlock = some k → ¬ S k) : w'.ownsRow lo e 1 tv n vs := by
  refine ⟨h.1, ?_⟩
  rcases h.2 with h2 | ⟨g, cap, cur, h1, h2, h3, h4⟩
  · exact .inl h2
  · exact .inr ⟨g, cap, cur, h1, h2, by rw [hc.2 g (Array.getElem?_eq_some_iff.1 h3).1 (hv g (by rw [h1]; rfl))]; exact h3, h4⟩
/-- A reader goes on: what was told stays. -/
theorem Told.step {t : TypeId} {w w' : World} {lo lo' g : Nat} {tv hv hv' : Value} {vs : List Value} {L : List (List UInt8)} {held : List UInt8} {sp : Bool} (h : Told w lo tv hv vs L) (hR : Rd t w lo' g hv held sp) (ht : t ≠ 5) (ht2 : t ≠ 22) (hc : Chg (Touch g hv) w w') (hg : Goes w hv hv') : Told w' lo tv hv' vs L := by
  refine ⟨row_chg h.row hc (fun k hk hS => ?_), h.len, fun j v b hv1 hb1 => ?_⟩
  · rcases hS with rfl | hS
    · exact row_blk h.row hR.blk ht2 hk
    · exact rows_apart h.row hR.own k hk hS
  · obtain ⟨ho, hoff⟩ := h.each j v b hv1 hb1
    refine ⟨ho.chg hc (fun k hk hS => ?_), fun k hk hk' => ?_⟩
    · rcases hS with rfl | hS
      · exact hR.blk.not_row ht ho hk
      · exact hoff k hk hS
    · rcases hg k hk' with h2 | h2
      · exact hoff k hk h2
      · have := (ho.blocks k hk).2; omega
/-- One more is told. -/
theorem Told.more {w w' : World} {lo : Nat} {tv tv' hv v1 : Value} {vs : List Value} {L : List (List UInt8)} {b1 : List UInt8} (h : Told w lo tv hv vs L) (hr : w'.ownsRow lo 22 1 tv' (vs ++ [v1]).length (vs ++ [v1])) (hg : w.grownBy w' tv.ownBlock) (ho1 : Own w lo v1 b1) (hoff : Off v1 hv) : Told w' lo tv' hv (vs ++ [v1]) (L ++ [b1]) := by
  have hc : Chg (fun k => tv.ownBlock = some k) w w' := Chg.of_grown hg (fun k hk => hk)
  refine ⟨hr, by simp [h.len], fun j v b hv1 hb1 => ?_⟩
  by_cases hj : j < vs.length
  · rw [List.getElem?_append_left hj] at hv1
    rw [List.getElem?_append_left (by rw [← h.len]; exact hj)] at hb1
    obtain ⟨ho, hoff'⟩ := h.each j v b hv1 hb1
    exact ⟨ho.chg hc (fun k hk hS => rows_apart h.row ho k hS hk), hoff'⟩
  · rw [List.getElem?_append_right (by omega)] at hv1
    rw [List.getElem?_append_right (by rw [← h.len]; omega)] at hb1
    have e1 : j - vs.length = 0 := by
      rcases Nat.eq_zero_or_pos (j - vs.length) with h0 | h0
      · exact h0
      · rw [List.getElem?_eq_none (by simp; omega)] at hv1; cases hv1
    rw [← h.len, e1] at hb1
    rw [e1] at hv1
    simp at hv1 hb1
    subst hv1 hb1
    exact ⟨ho1.chg hc (fun k hk hS => rows_apart h.row ho1 k hS hk), hoff⟩
/-- A reader lies on where other blocks change. -/
theorem Rd.chg {t : TypeId} {S : Nat → Prop} {w w' : World} {lo g : Nat} {hv : Value} {held : List UInt8} {sp : Bool} (h : Rd t w lo g hv held sp) (hc : Chg S w w') (hS : ∀ k, Touch g hv k → ¬ S k) : Rd t w' lo g hv held sp :=
  ⟨h.blk.chg hc (hS g (.inl rfl)), h.own.chg hc (fun k hk => hS k (.inr hk)), h.low⟩
theorem own_one {w : World} {lo : Nat} {v : Value} {bs : List UInt8} (h : Own w lo v bs) : v.oneCell' = true := by
  obtain ⟨a, c, rfl⟩ := h.seg.shapeF
  rfl
end Go.Proofs.YtchbfhckocfjhaaDoor
