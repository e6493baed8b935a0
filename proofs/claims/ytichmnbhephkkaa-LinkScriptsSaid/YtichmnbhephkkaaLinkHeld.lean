/-
  What is proved here: rows of bytes, and packets, in slices of one's own, apart from what others write; a link as laws hold it.
  Conditions: those that each fact names.
-/
import Derived.Test.YtichmnbhephkkaaLinkDel
import Derived.Test.YtichmnbhephkkaaWalSame
namespace Go.Proofs.Ytichmnbhephkkaa
open Go.RowKit

theorem Seg.in_heap {w : World} {v : Value} {bs : List UInt8} (h : Seg w v bs) (h0 : 0 < bs.length) (q : Nat) (hq : v.ownBlock = some q) : q < w.heap.size := by
  rcases h with ⟨e, _⟩ | ⟨b, off, c, e, _, _, hl⟩
  · rw [e] at h0; cases h0
  · rw [e] at hq; cases hq; exact hl
theorem SegA.grow {w : World} {T T' : Nat → Prop} {v : Value} {bs : List UInt8} (h : SegA w T v bs) (hT : ∀ q, T' q → T q ∨ w.heap.size ≤ q) : SegA w T' v bs :=
  ⟨h.1, fun h0 q hq e => by
    rcases hT q e with e1 | e1
    · exact h.2 h0 q hq e1
    · have := h.1.in_heap h0 q hq; omega⟩
theorem SegA.after {w w' : World} {T : Nat → Prop} {v : Value} {bs : List UInt8} (h : SegA w T v bs) (hb : Below w.heap.size w w') : SegA w' T v bs := ⟨h.1.below hb (Nat.le_refl _), h.2⟩
theorem SegA.chgs {w w' : World} {T S : Nat → Prop} {v : Value} {bs : List UInt8} (h : SegA w T v bs) (hc : Chg S w w') (hS : ∀ q, S q → T q) : SegA w' T v bs := h.chg (hc.weaken hS)
theorem SegA.one {w : World} {T : Nat → Prop} {v : Value} {bs : List UInt8} (h : SegA w T v bs) : v.oneCell' = true := by
  obtain ⟨ao, c, rfl⟩ := h.1.shapeD
  rfl
theorem Own.segK {w : World} {B : Nat} {T : Nat → Prop} {v : Value} {bs : List UInt8} (h : Own w B v bs) (hT : ∀ q, T q → q < B) : SegA w T v bs := ⟨h.seg, fun _ q hq e => by have := (h.blocks q hq).1; have := hT q e; omega⟩

/-- Rows of bytes in a slice of one's own; the bytes lie apart from such blocks. -/
def RowsO (w : World) (T : Nat → Prop) (lo : Nat) (v : Value) (rs : List (List UInt8)) : Prop := ∃ vs, OwnO w lo 32 1 v rs.length vs ∧ ∀ (i : Nat) u r, vs[i]? = some u → rs[i]? = some r → SegA w T u r
theorem RowsO.nil (w : World) (T : Nat → Prop) (lo : Nat) : RowsO w T lo (.slice none 0 0) [] := ⟨[], OwnO.nil _ _ _ _, fun i u r h => by simp at h⟩
theorem RowsO.shape {w : World} {T : Nat → Prop} {lo : Nat} {v : Value} {rs : List (List UInt8)} (h : RowsO w T lo v rs) : ∃ ao c, v = .slice ao rs.length c := by
  obtain ⟨vs, h1, _⟩ := h
  exact h1.shape
theorem RowsO.lt {w : World} {T : Nat → Prop} {lo : Nat} {v : Value} {rs : List (List UInt8)} (h : RowsO w T lo v rs) : ∀ q, v.ownBlock = some q → lo ≤ q ∧ q < w.heap.size := by
  obtain ⟨vs, h1, _⟩ := h
  exact h1.lt
theorem RowsO.chg {w w' : World} {T S : Nat → Prop} {lo : Nat} {v : Value} {rs : List (List UInt8)} (h : RowsO w T lo v rs) (hc : Chg S w w') (hS : ∀ q, S q → T q) (hv : ∀ q, v.ownBlock = some q → ¬ S q) : RowsO w' T lo v rs := by
  obtain ⟨vs, h1, h2⟩ := h
  exact ⟨vs, h1.chg hc hv, fun i u r hu hr => (h2 i u r hu hr).chgs hc hS⟩
theorem RowsO.after {w w' : World} {T : Nat → Prop} {lo : Nat} {v : Value} {rs : List (List UInt8)} (h : RowsO w T lo v rs) (hb : Below w.heap.size w w') : RowsO w' T lo v rs := by
  obtain ⟨vs, h1, h2⟩ := h
  exact ⟨vs, h1.after hb, fun i u r hu hr => (h2 i u r hu hr).after hb⟩
theorem RowsO.grow {w : World} {T T' : Nat → Prop} {lo : Nat} {v : Value} {rs : List (List UInt8)} (h : RowsO w T lo v rs) (hT : ∀ q, T' q → T q ∨ w.heap.size ≤ q) : RowsO w T' lo v rs := by
  obtain ⟨vs, h1, h2⟩ := h
  exact ⟨vs, h1, fun i u r hu hr => (h2 i u r hu hr).grow hT⟩
theorem RowsO.mono {w : World} {T : Nat → Prop} {lo lo' : Nat} {v : Value} {rs : List (List UInt8)} (h : RowsO w T lo v rs) (hl : lo' ≤ lo) : RowsO w T lo' v rs := by
  obtain ⟨vs, h1, h2⟩ := h
  exact ⟨vs, h1.mono hl, h2⟩
theorem OwnO.len {w : World} {lo : Nat} {t : TypeId} {v : Value} {n : Nat} {xs : List Value} (h : OwnO w lo t 1 v n xs) : xs.length = n := by have := h.1; omega
theorem RowsO.one {w : World} {T : Nat → Prop} {lo : Nat} {v : Value} {rs : List (List UInt8)} {vs : List Value} (h1 : OwnO w lo 32 1 v rs.length vs) (h2 : ∀ (i : Nat) u r, vs[i]? = some u → rs[i]? = some r → SegA w T u r) : ∀ u ∈ vs, u.oneCell' = true := fun u hu => by
  obtain ⟨i, hi, rfl⟩ := List.getElem_of_mem hu
  have hr : i < rs.length := by have := h1.len; omega
  exact (h2 i _ rs[i] (List.getElem?_eq_getElem hi) (List.getElem?_eq_getElem hr)).one
theorem RowsO.rowsV {w : World} {T : Nat → Prop} {lo : Nat} {v : Value} {rs : List (List UInt8)} (h : RowsO w T lo v rs) (hm : rs.length ≤ maxLen) : RowsV w v rs := by
  obtain ⟨vs, h1, h2⟩ := h
  have hl := h1.len
  obtain ⟨ao, c, hv⟩ := h1.shape
  refine ⟨ao, c, hv, hm, fun i r hr => ?_⟩
  have hi : i < rs.length := (List.getElem?_eq_some_iff.1 hr).1
  obtain ⟨g, off, cap, e, _, hg, _, hc⟩ := h1.form (by omega)
  rw [hv] at e
  cases e
  have hu := List.getElem?_eq_getElem (l := vs) (i := i) (by omega)
  exact ⟨g, off, rfl, hg, _, hc i _ hu, (h2 i _ r hu hr).1⟩
/-- Where one of the rows lies. -/
theorem RowsO.at {w : World} {T : Nat → Prop} {lo : Nat} {v : Value} {rs : List (List UInt8)} (h : RowsO w T lo v rs) {k : Nat} (hk : k < rs.length) : ∃ b off c a cc, v = .slice (some ⟨b, off, none⟩) rs.length c ∧ b < w.heap.size ∧ w.cell? ⟨b, off + k, none⟩ = some (.slice a (rs.getD k []).length cc) ∧ SegA w T (.slice a (rs.getD k []).length cc) (rs.getD k []) := by
  obtain ⟨vs, h1, h2⟩ := h
  have hl := h1.len
  obtain ⟨g, off, cap, e, _, hg, _, hc⟩ := h1.form (by omega)
  have hu := List.getElem?_eq_getElem (l := vs) (i := k) (by omega)
  have hr : rs[k]? = some (rs.getD k []) := by rw [List.getD_eq_getElem?_getD, List.getElem?_eq_getElem hk]; rfl
  have hs := h2 k _ _ hu hr
  obtain ⟨a, cc, e2⟩ := hs.1.shapeD
  refine ⟨g, off, cap, a, cc, e, hg, ?_, ?_⟩
  · rw [← e2]; exact hc k _ hu
  · rw [← e2]; exact hs
/-- append of more rows. -/
theorem RowsO.app {w : World} {T : Nat → Prop} {lo : Nat} {v : Value} {rs : List (List UInt8)} (h : RowsO w T lo v rs) (hT : ∀ q, v.ownBlock = some q → T q) (a : Addr) (c : Nat) (us : List Value) (rs2 : List (List UInt8)) (hl : us.length = rs2.length) (hc : ∀ j u, us[j]? = some u → w.cell? (a.add j) = some u) (hu : ∀ (i : Nat) u r, us[i]? = some u → rs2[i]? = some r → SegA w T u r) (hm : rs.length + us.length ≤ 1000000) (hlo : lo ≤ w.heap.size) :
    ∃ v' w', (∀ ty, (Builtin.append_ #[41, 41] ty #[v, .slice (some a) us.length c]).run Try.prog w = .ok v' w') ∧ RowsO w' (fun q => T q ∨ v'.ownBlock = some q) lo v' (rs ++ rs2) ∧ w.grownBy w' v.ownBlock ∧ (v'.ownBlock = v.ownBlock ∨ v'.ownBlock = some w.heap.size) := by
  obtain ⟨vs, h1, h2⟩ := h
  obtain ⟨i0, hi0, hz0, hz1, hz2⟩ := parts_bytesK
  have h1u : ∀ u ∈ us, u.oneCell' = true := fun u hu' => by
    obtain ⟨i, hi, rfl⟩ := List.getElem_of_mem hu'
    exact (hu i _ (rs2[i]'(by omega)) (List.getElem?_eq_getElem hi) (List.getElem?_eq_getElem _)).one
  obtain ⟨v', w', r1, r2, r3, r4⟩ := h1.app 41 i0 (.slice none 0 0) 24 under_rows hi0 hz0 hz1 hz2 rfl (by decide) a us.length c us (by omega) hc h1u (by unfold maxLen; omega) (by omega) hlo
  have hcg : Chg (fun q => v.ownBlock = some q) w w' := Chg.of_grown r3 (fun k e => e)
  have hTg : ∀ q, (T q ∨ v'.ownBlock = some q) → T q ∨ w.heap.size ≤ q := fun q hq => by
    rcases hq with e | e
    · exact .inl e
    · rcases r4 with k | k
      · exact .inl (hT q (by rw [← k]; exact e))
      · rw [k] at e; cases e; exact .inr (Nat.le_refl _)
  refine ⟨v', w', r1, ⟨vs ++ us, ?_, fun i u r hu' hr' => ?_⟩, r3, r4⟩
  · rw [List.length_append, ← hl]
    exact r2
  · have hvl := h1.len
    rcases Nat.lt_or_ge i vs.length with hi | hi
    · rw [List.getElem?_append_left hi] at hu'
      rw [List.getElem?_append_left (by omega)] at hr'
      exact ((h2 i u r hu' hr').grow hTg).chgs hcg (fun q e => .inl (hT q e))
    · rw [List.getElem?_append_right hi] at hu'
      rw [List.getElem?_append_right (by omega), ← hvl] at hr'
      exact ((hu _ u r hu' hr').grow hTg).chgs hcg (fun q e => .inl (hT q e))

def cellsK : List KP → List Value → List Value
  | p :: ps, b :: bs => kpL p b ++ cellsK ps bs
  | _, _ => []
theorem cellsK_len : ∀ (ps : List KP) (bs : List Value), bs.length = ps.length → (cellsK ps bs).length = ps.length * 6
  | [], [], _ => rfl
  | p :: ps, b :: bs, h => by
    show (kpL p b ++ cellsK ps bs).length = _
    rw [List.length_append, cellsK_len ps bs (by simpa using h), List.length_cons]
    show 6 + _ = _
    omega
theorem cellsK_app : ∀ (ps : List KP) (bs : List Value) (qs : List KP) (cs : List Value), bs.length = ps.length → cellsK (ps ++ qs) (bs ++ cs) = cellsK ps bs ++ cellsK qs cs
  | [], [], _, _, _ => rfl
  | p :: ps, b :: bs, qs, cs, h => by
    show kpL p b ++ cellsK (ps ++ qs) (bs ++ cs) = (kpL p b ++ cellsK ps bs) ++ cellsK qs cs
    rw [cellsK_app ps bs qs cs (by simpa using h), List.append_assoc]
theorem cellsK_at : ∀ (ps : List KP) (bs : List Value) (i k : Nat) (p : KP) (b : Value), ps[i]? = some p → bs[i]? = some b → k < 6 → (cellsK ps bs)[i * 6 + k]? = (kpL p b)[k]?
  | [], _, _, _, _, _, h, _, _ => by simp at h
  | _ :: _, [], _, _, _, _, _, h, _ => by simp at h
  | p :: ps, b :: bs, 0, k, p', b', h, h', hk => by
    cases h; cases h'
    show (kpL p b ++ cellsK ps bs)[0 * 6 + k]? = _
    rw [Nat.zero_mul, Nat.zero_add, List.getElem?_append_left (by exact hk)]
  | p :: ps, b :: bs, i + 1, k, p', b', h, h', hk => by
    show (kpL p b ++ cellsK ps bs)[(i + 1) * 6 + k]? = _
    rw [List.getElem?_append_right (by show 6 ≤ _; omega), show (i + 1) * 6 + k - (kpL p b).length = i * 6 + k by show (i + 1) * 6 + k - 6 = _; omega]
    exact cellsK_at ps bs i k p' b' (by simpa using h) (by simpa using h') hk
theorem cellsK_drop : ∀ (d : Nat) (ps : List KP) (bs : List Value), bs.length = ps.length → (cellsK ps bs).drop (d * 6) = cellsK (ps.drop d) (bs.drop d)
  | 0, ps, bs, _ => by simp
  | d + 1, [], [], _ => by simp [cellsK]
  | d + 1, p :: ps, b :: bs, h => by
    show (kpL p b ++ cellsK ps bs).drop ((d + 1) * 6) = cellsK (ps.drop d) (bs.drop d)
    have hk : (kpL p b).length = 6 := rfl
    rw [List.drop_append, List.drop_eq_nil_of_le (by rw [hk]; omega), List.nil_append, hk, show (d + 1) * 6 - 6 = d * 6 by omega]
    exact cellsK_drop d ps bs (by simpa using h)
/-- Packets in a slice of one's own; their bytes lie apart from such blocks. -/
def PksO (w : World) (T : Nat → Prop) (lo : Nat) (v : Value) (ps : List KP) : Prop := ∃ bvs : List Value, bvs.length = ps.length ∧ OwnO w lo 34 6 v ps.length (cellsK ps bvs) ∧ ∀ (i : Nat) (u : Value) (p : KP), bvs[i]? = some u → ps[i]? = some p → SegA w T u p.b
theorem PksO.nil (w : World) (T : Nat → Prop) (lo : Nat) : PksO w T lo (.slice none 0 0) [] := ⟨[], rfl, OwnO.nil _ _ _ _, fun i u r h => by simp at h⟩
theorem PksO.shape {w : World} {T : Nat → Prop} {lo : Nat} {v : Value} {ps : List KP} (h : PksO w T lo v ps) : ∃ ao c, v = .slice ao ps.length c := by
  obtain ⟨vs, _, h1, _⟩ := h
  exact h1.shape
theorem PksO.lt {w : World} {T : Nat → Prop} {lo : Nat} {v : Value} {ps : List KP} (h : PksO w T lo v ps) : ∀ q, v.ownBlock = some q → lo ≤ q ∧ q < w.heap.size := by
  obtain ⟨vs, _, h1, _⟩ := h
  exact h1.lt
theorem PksO.chg {w w' : World} {T S : Nat → Prop} {lo : Nat} {v : Value} {ps : List KP} (h : PksO w T lo v ps) (hc : Chg S w w') (hS : ∀ q, S q → T q) (hv : ∀ q, v.ownBlock = some q → ¬ S q) : PksO w' T lo v ps := by
  obtain ⟨vs, h0, h1, h2⟩ := h
  exact ⟨vs, h0, h1.chg hc hv, fun i u r hu hr => (h2 i u r hu hr).chgs hc hS⟩
theorem PksO.after {w w' : World} {T : Nat → Prop} {lo : Nat} {v : Value} {ps : List KP} (h : PksO w T lo v ps) (hb : Below w.heap.size w w') : PksO w' T lo v ps := by
  obtain ⟨vs, h0, h1, h2⟩ := h
  exact ⟨vs, h0, h1.after hb, fun i u r hu hr => (h2 i u r hu hr).after hb⟩
theorem PksO.grow {w : World} {T T' : Nat → Prop} {lo : Nat} {v : Value} {ps : List KP} (h : PksO w T lo v ps) (hT : ∀ q, T' q → T q ∨ w.heap.size ≤ q) : PksO w T' lo v ps := by
  obtain ⟨vs, h0, h1, h2⟩ := h
  exact ⟨vs, h0, h1, fun i u r hu hr => (h2 i u r hu hr).grow hT⟩
theorem PksO.mono {w : World} {T : Nat → Prop} {lo lo' : Nat} {v : Value} {ps : List KP} (h : PksO w T lo v ps) (hl : lo' ≤ lo) : PksO w T lo' v ps := by
  obtain ⟨vs, h0, h1, h2⟩ := h
  exact ⟨vs, h0, h1.mono hl, h2⟩
/-- Where one of the packets lies. -/
theorem PksO.at {w : World} {T : Nat → Prop} {lo : Nat} {v : Value} {ps : List KP} (h : PksO w T lo v ps) {k : Nat} {p : KP} (hk : ps[k]? = some p) : ∃ b off c a cc, v = .slice (some ⟨b, off, none⟩) ps.length c ∧ b < w.heap.size ∧ (∀ (j : Nat) u, (kpL p (.slice a p.b.length cc))[j]? = some u → w.cell? ⟨b, off + (k * 6 + j), none⟩ = some u) ∧ SegA w T (.slice a p.b.length cc) p.b := by
  obtain ⟨bvs, h0, h1, h2⟩ := h
  have hl : k < ps.length := (List.getElem?_eq_some_iff.1 hk).1
  obtain ⟨g, off, cap, e, _, hg, _, hc⟩ := h1.form (by omega)
  have hu := List.getElem?_eq_getElem (l := bvs) (i := k) (by omega)
  have hs := h2 k _ _ hu hk
  obtain ⟨a, cc, e2⟩ := hs.1.shapeD
  refine ⟨g, off, cap, a, cc, e, hg, fun j u hj => ?_, by rw [← e2]; exact hs⟩
  have hj6 : j < 6 := (List.getElem?_eq_some_iff.1 hj).1
  have := cellsK_at ps bvs k j p _ hk hu hj6
  rw [e2, hj] at this
  exact hc _ u this
theorem one_kp (p : KP) (b : Value) (hb : b.oneCell' = true) : ∀ u ∈ kpL p b, u.oneCell' = true := by
  intro u hu
  simp only [kpL, List.mem_cons, List.not_mem_nil, or_false] at hu
  rcases hu with rfl | rfl | rfl | rfl | rfl | rfl
  · rfl
  · rfl
  · rfl
  · rfl
  · rfl
  · exact hb
theorem one_kps : ∀ (ps : List KP) (bs : List Value), (∀ b ∈ bs, b.oneCell' = true) → ∀ u ∈ cellsK ps bs, u.oneCell' = true
  | [], _, _, u, hu => by simp [cellsK] at hu
  | _ :: _, [], _, u, hu => by simp [cellsK] at hu
  | p :: ps, b :: bs, h, u, hu => by
    have hu' : u ∈ kpL p b ++ cellsK ps bs := hu
    rcases List.mem_append.1 hu' with h1 | h1
    · exact one_kp p b (h b List.mem_cons_self) u h1
    · exact one_kps ps bs (fun x hx => h x (List.mem_cons_of_mem _ hx)) u h1
theorem under_pks : Try.prog.underlying 38 = some (.slice 34) := by kernel_rfl
theorem info_pkt : (Try.prog.info? 34).map (fun i => (i.zero, i.size, i.bytes)) = some (some (.agg #[.int .i64 0, .int .i64 0, .int .i64 0, .int .i64 0, .int .i64 0, .slice none 0 0]), 6, 64) := by kernel_rfl
theorem parts_pkt : ∃ i, Try.prog.info? 34 = some i ∧ i.zero = some (.agg #[.int .i64 0, .int .i64 0, .int .i64 0, .int .i64 0, .int .i64 0, .slice none 0 0]) ∧ i.size = 6 ∧ i.bytes = 64 := info_parts info_pkt
/-- append of more packets. -/
theorem PksO.app {w : World} {T : Nat → Prop} {lo : Nat} {v : Value} {ps : List KP} (h : PksO w T lo v ps) (hT : ∀ q, v.ownBlock = some q → T q) (a : Addr) (c : Nat) (qs : List KP) (us : List Value) (hl : us.length = qs.length) (hc : ∀ j u, (cellsK qs us)[j]? = some u → w.cell? (a.add j) = some u) (hu : ∀ (i : Nat) u p, us[i]? = some u → qs[i]? = some p → SegA w T u p.b) (hm : ps.length + qs.length ≤ 1000000) (hlo : lo ≤ w.heap.size) :
    ∃ v' w', (∀ ty, (Builtin.append_ #[38, 38] ty #[v, .slice (some a) qs.length c]).run Try.prog w = .ok v' w') ∧ PksO w' (fun q => T q ∨ v'.ownBlock = some q) lo v' (ps ++ qs) ∧ w.grownBy w' v.ownBlock ∧ (v'.ownBlock = v.ownBlock ∨ v'.ownBlock = some w.heap.size) := by
  obtain ⟨vs, h0, h1, h2⟩ := h
  obtain ⟨i0, hi0, hz0, hz1, hz2⟩ := parts_pkt
  have h1u : ∀ u ∈ us, u.oneCell' = true := fun u hu' => by
    obtain ⟨i, hi, rfl⟩ := List.getElem_of_mem hu'
    exact (hu i _ (qs[i]'(by omega)) (List.getElem?_eq_getElem hi) (List.getElem?_eq_getElem _)).one
  obtain ⟨v', w', r1, r2, r3, r4⟩ := h1.app 38 i0 (.agg #[.int .i64 0, .int .i64 0, .int .i64 0, .int .i64 0, .int .i64 0, .slice none 0 0]) 64 under_pks hi0 hz0 hz1 hz2 rfl (by decide) a qs.length c (cellsK qs us) (cellsK_len qs us hl) hc (one_kps qs us h1u) (by unfold maxLen; omega) (by omega) hlo
  have hcg : Chg (fun q => v.ownBlock = some q) w w' := Chg.of_grown r3 (fun k e => e)
  have hTg : ∀ q, (T q ∨ v'.ownBlock = some q) → T q ∨ w.heap.size ≤ q := fun q hq => by
    rcases hq with e | e
    · exact .inl e
    · rcases r4 with k | k
      · exact .inl (hT q (by rw [← k]; exact e))
      · rw [k] at e; cases e; exact .inr (Nat.le_refl _)
  refine ⟨v', w', r1, ⟨vs ++ us, by rw [List.length_append, List.length_append, h0, hl], ?_, fun i u r hu' hr' => ?_⟩, r3, r4⟩
  · rw [List.length_append, cellsK_app ps vs qs us h0]
    exact r2
  · rcases Nat.lt_or_ge i vs.length with hi | hi
    · rw [List.getElem?_append_left hi] at hu'
      rw [List.getElem?_append_left (by omega)] at hr'
      exact ((h2 i u r hu' hr').grow hTg).chgs hcg (fun q e => .inl (hT q e))
    · rw [List.getElem?_append_right hi] at hu'
      rw [List.getElem?_append_right (by omega), ← h0] at hr'
      exact ((hu _ u r hu' hr').grow hTg).chgs hcg (fun q e => .inl (hT q e))
/-- A link, as laws hold it: its head, its rows, and which blocks are written. -/
structure LK (t : TypeId) (hd : KS → Value → Array Value) (w : World) (T : Nat → Prop) (lo G : Nat) (v : Value) (s : KS) : Prop where
  head : Blk w G t (hd s v)
  row : RowsO w T lo v s.wt
  ok : s.ok
  tG : T G
  tv : ∀ q, v.ownBlock = some q → T q
  lt : ∀ q, T q → q < w.heap.size
  ge : ∀ q, T q → lo ≤ q
  ne : v.ownBlock ≠ some G
/-- What a link's calls write. -/
def LM (G : Nat) (v : Value) (q : Nat) : Prop := q = G ∨ v.ownBlock = some q
abbrev LP := LK 69 linkC
theorem LK.sub {t : TypeId} {hd : KS → Value → Array Value} {w : World} {T : Nat → Prop} {lo G : Nat} {v : Value} {s : KS} (h : LK t hd w T lo G v s) (q : Nat) (hq : LM G v q) : T q := by
  rcases hq with rfl | e
  · exact h.tG
  · exact h.tv q e
theorem LK.after {t : TypeId} {hd : KS → Value → Array Value} {w w' : World} {T : Nat → Prop} {lo G : Nat} {v : Value} {s : KS} (h : LK t hd w T lo G v s) (hb : Below w.heap.size w w') : LK t hd w' T lo G v s :=
  ⟨h.head.below hb h.head.lt, h.row.after hb, h.ok, h.tG, h.tv, fun q hq => Nat.lt_of_lt_of_le (h.lt q hq) hb.size, h.ge, h.ne⟩
/-- Others' blocks have changed. -/
theorem LK.chg {t : TypeId} {hd : KS → Value → Array Value} {w w' : World} {T S : Nat → Prop} {lo G : Nat} {v : Value} {s : KS} (h : LK t hd w T lo G v s) (hc : Chg S w w') (hS : ∀ q, S q → T q) (hn : ∀ q, S q → ¬ LM G v q) : LK t hd w' T lo G v s :=
  ⟨h.head.chg hc (fun e => hn G e (.inl rfl)), h.row.chg hc hS (fun q hq e => hn q e (.inr hq)), h.ok, h.tG, h.tv, fun q hq => Nat.lt_of_lt_of_le (h.lt q hq) hc.size, h.ge, h.ne⟩
/-- More blocks are written. -/
theorem LK.grow {t : TypeId} {hd : KS → Value → Array Value} {w : World} {T T' : Nat → Prop} {lo G : Nat} {v : Value} {s : KS} (h : LK t hd w T lo G v s) (h1 : ∀ q, T q → T' q) (hl : ∀ q, T' q → q < w.heap.size) (hg : ∀ q, T' q → lo ≤ q) (ha : ∀ (i : Nat) u r vs, OwnO w lo 32 1 v s.wt.length vs → vs[i]? = some u → s.wt[i]? = some r → SegA w T u r → SegA w T' u r) : LK t hd w T' lo G v s := by
  obtain ⟨vs, r1, r2⟩ := h.row
  exact ⟨h.head, ⟨vs, r1, fun i u r hu hr => ha i u r vs r1 hu hr (r2 i u r hu hr)⟩, h.ok, h1 G h.tG, fun q hq => h1 q (h.tv q hq), hl, hg, h.ne⟩
end Go.Proofs.Ytichmnbhephkkaa
