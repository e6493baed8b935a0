/-
  What is proved here: values that a call lays itself: a slice of values of its own that grows, and values that lie apart from it.
  Conditions: those that each fact names.
-/
import Derived.Test.YtjepeonekhhgfaaPackNum
namespace Go.Proofs.Ytjepeonekhhgfaa
open Go.RowKit

/-- Two worlds agree on blocks of a kind. -/
def Agree (w W : World) (S : Nat → Prop) : Prop := w.heap.size ≤ W.heap.size ∧ ∀ b o, S b → b < w.heap.size → W.cell? ⟨b, o, none⟩ = w.cell? ⟨b, o, none⟩
theorem Agree.refl (w : World) (S : Nat → Prop) : Agree w w S := ⟨Nat.le_refl _, fun _ _ _ _ => rfl⟩
theorem Agree.of_keeps {w W : World} (h : Keeps w W) (S : Nat → Prop) : Agree w W S := ⟨h.1, fun b o _ hb => h.2 b o hb⟩
/-- A value's bytes and records lie here. -/
def VOk (w : World) (k : Nat) (x : Val) (bv lv : Value) : Prop :=
  (Seg w bv x.b ∧ x.b.length ≤ maxLen) ∧ (∃ ao c, lv = .slice ao x.l.length c ∧ x.l.length ≤ maxLen ∧ (0 < x.l.length → ∃ b off, ao = some ⟨b, off, none⟩ ∧ b < w.heap.size ∧ x.l.length ≤ c ∧ ∀ j r, x.l[j]? = some r → ∃ rv, w.cell? ⟨b, off + j, none⟩ = some rv ∧ Vals w k rv r)) ∧ x.n < 18446744073709551616
/-- .. and in every world that agrees on blocks of the kind. -/
def VOkK (w : World) (S : Nat → Prop) (k : Nat) (x : Val) (bv lv : Value) : Prop := ∀ W, Agree w W S → VOk W k x bv lv
def ValsK (w : World) (S : Nat → Prop) (k : Nat) (v : Value) (l : List Val) : Prop := ∀ W, Agree w W S → Vals W k v l
theorem VOkK.step {w w' : World} {S S' : Nat → Prop} {k : Nat} {x : Val} {bv lv : Value} (h : VOkK w S k x bv lv) (ha : Agree w w' S) (hS : ∀ b, b < w.heap.size → S b → S' b) : VOkK w' S' k x bv lv := fun W hW => h W ⟨Nat.le_trans ha.1 hW.1, fun b o hb hl => (hW.2 b o (hS b hl hb) (Nat.lt_of_lt_of_le hl ha.1)).trans (ha.2 b o hb hl)⟩
theorem ValsK.step {w w' : World} {S S' : Nat → Prop} {k : Nat} {v : Value} {l : List Val} (h : ValsK w S k v l) (ha : Agree w w' S) (hS : ∀ b, b < w.heap.size → S b → S' b) : ValsK w' S' k v l := fun W hW => h W ⟨Nat.le_trans ha.1 hW.1, fun b o hb hl => (hW.2 b o (hS b hl hb) (Nat.lt_of_lt_of_le hl ha.1)).trans (ha.2 b o hb hl)⟩

/-- A value with where its bytes and records are. -/
structure Put where
  x : Val
  bv : Value
  lv : Value
def Put.cells (p : Put) : List Value := [.int .u64 (p.x.n : Int), p.bv, p.lv]
/-- Blocks of the call's own, but for this slice's. -/
def Apart (base : Nat) (v : Value) (b : Nat) : Prop := base ≤ b ∧ v.ownBlock ≠ some b
/-- A slice of values of the call's own. -/
structure OwnV (w : World) (base k : Nat) (v : Value) (ps : List Put) : Prop where
  row : w.ownsRow base 42 3 v ps.length (ps.flatMap Put.cells)
  each : ∀ p ∈ ps, VOkK w (Apart base v) k p.x p.bv p.lv
theorem OwnV.nil (w : World) (base k : Nat) : OwnV w base k (.slice none 0 0) [] := ⟨⟨rfl, .inl ⟨rfl, rfl⟩⟩, fun _ h => by cases h⟩
theorem flat_at : ∀ (ps : List Put) (i j : Nat) (p : Put), ps[i]? = some p → j < 3 → (ps.flatMap Put.cells)[i * 3 + j]? = p.cells[j]?
  | [], _, _, _, h, _ => by simp at h
  | q :: ps, 0, j, p, h, hj => by
    simp at h
    subst h
    rw [List.flatMap_cons, Nat.zero_mul, Nat.zero_add, List.getElem?_append_left (by show j < 3; exact hj)]
  | q :: ps, i + 1, j, p, h, hj => by
    rw [List.flatMap_cons, List.getElem?_append_right (by show 3 ≤ _; omega)]
    have e : (i + 1) * 3 + j - q.cells.length = i * 3 + j := by show (i + 1) * 3 + j - 3 = _; omega
    rw [e]
    exact flat_at ps i j p (by simpa using h) hj
/-- It is a slice of values in every world that agrees on the call's own blocks. -/
theorem OwnV.vals {w : World} {base k : Nat} {v : Value} {ps : List Put} (h : OwnV w base k v ps) (hm : ps.length ≤ maxLen) : ValsK w (fun b => base ≤ b) (k + 1) v (ps.map Put.x) := fun W hW => by
  rcases Nat.eq_zero_or_pos ps.length with h0 | h0
  · obtain rfl := List.eq_nil_of_length_eq_zero h0
    rcases h.row.2 with ⟨h1, _⟩ | ⟨g, cap, cur, h1, _⟩
    · exact ⟨none, 0, h1, Nat.zero_le _, fun h => by cases h⟩
    · exact ⟨_, cap, h1, Nat.zero_le _, fun h => by cases h⟩
  · obtain ⟨g, cap, hv, hb, hl⟩ := World.ownsRow.form h.row h0
    have hcap : ps.length ≤ cap := by
      rcases h.row.2 with ⟨h1, _⟩ | ⟨g', cap', cur, h1, _, _, h4, _⟩
      · rw [hv] at h1; cases h1
      · rw [hv] at h1; cases h1; exact h4
    have hcell : ∀ j u, (ps.flatMap Put.cells)[j]? = some u → W.cell? ⟨g, j, none⟩ = some u := fun j u hu => by
      have h1 := World.ownsRow.cells h.row (g := g) (by rw [hv]; rfl) j u hu
      rw [Addr.add_mid, Nat.zero_add] at h1
      rw [hW.2 g j hb hl, h1]
    refine ⟨some ⟨g, 0, none⟩, cap, by rw [hv, List.length_map], by rw [List.length_map]; exact hm, fun _ => ⟨g, 0, rfl, Nat.lt_of_lt_of_le hl hW.1, by rw [List.length_map]; exact hcap, fun i x hx => ?_⟩⟩
    rw [List.getElem?_map, Option.map_eq_some_iff] at hx
    obtain ⟨p, hp, rfl⟩ := hx
    have hpm := List.mem_of_getElem? hp
    obtain ⟨hsb, ⟨ao, c, hlv, hll, hrec⟩, hn⟩ := h.each p hpm W ⟨hW.1, fun b o hS hl => hW.2 b o hS.1 hl⟩
    rw [Nat.zero_add]
    refine ⟨?_, ⟨p.bv, hcell _ _ (flat_at ps i 1 p hp (by omega)), hsb⟩, ⟨ao, c, ?_, hll, hrec⟩, hn⟩
    · exact hcell _ _ ((flat_at ps i 0 p hp (by omega)).trans rfl)
    · rw [← hlv]; exact hcell _ _ (flat_at ps i 2 p hp (by omega))
/-- What else the world holds may change. -/
theorem OwnV.after {w w' : World} {base k B : Nat} {v : Value} {ps : List Put} (h : OwnV w base k v ps) (hb : Below B w w') (hB : w.heap.size ≤ B) : OwnV w' base k v ps := by
  refine ⟨⟨h.row.1, ?_⟩, fun p hp => (h.each p hp).step (Agree.of_keeps (Keeps.of_below hb hB) _) (fun _ _ h => h)⟩
  rcases h.row.2 with h2 | ⟨g, cap, cur, h1, h2, h3, h4⟩
  · exact .inl h2
  · exact .inr ⟨g, cap, cur, h1, h2, by rw [hb.block g (Nat.lt_of_lt_of_le (Array.getElem?_eq_some_iff.1 h3).1 hB)]; exact h3, h4⟩
/-- One more value. -/
theorem OwnV.more {w w' : World} {base k : Nat} {v v' : Value} {ps : List Put} {p : Put} (h : OwnV w base k v ps) (hr : w'.ownsRow base 42 3 v' (ps.length + 1) (ps.flatMap Put.cells ++ p.cells)) (hg : w.grownBy w' v.ownBlock) (hv : v'.ownBlock = v.ownBlock ∨ v'.ownBlock = some w.heap.size) (hp : VOkK w (Apart base v) k p.x p.bv p.lv) : OwnV w' base k v' (ps ++ [p]) := by
  have ha : Agree w w' (Apart base v) := ⟨hg.size, fun b o hS hl => hg.cell_far ⟨b, o, none⟩ hl (fun e => hS.2 e.symm)⟩
  have hS : ∀ b, b < w.heap.size → Apart base v b → Apart base v' b := fun b hl hb => ⟨hb.1, by
    rcases hv with e | e
    · rw [e]; exact hb.2
    · rw [e]; intro h2; have := Option.some.inj h2; omega⟩
  refine ⟨?_, fun q hq => ?_⟩
  · rw [List.length_append, List.flatMap_append]
    simpa using hr
  · rcases List.mem_append.1 hq with h1 | h1
    · exact (h.each q h1).step ha hS
    · obtain rfl : q = p := by simpa using h1
      exact hp.step ha hS
end Go.Proofs.Ytjepeonekhhgfaa
