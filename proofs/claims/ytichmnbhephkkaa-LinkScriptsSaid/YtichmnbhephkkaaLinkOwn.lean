/-
  What is proved here: slices of one's own that may begin within their block: append, their rests; rows of bytes and packets in them.
  Conditions: those that each fact names.
-/
import Derived.Test.YtichmnbhephkkaaLinkPure
import Derived.Test.YtichmnbhephkkaaHeldMore
import Derived.Test.YtichmnbhephkkaaChgWorld
import Derived.Test.YtichmnbhephkkaaBlkNe
import Derived.Test.YtichmnbhephkkaaBlkMid
import Derived.ArgAppend
namespace Go.Proofs.Ytichmnbhephkkaa
open Go.RowKit

/-- A slice of one's own: its block, from where on, and what lies there. -/
def OwnO (w : World) (lo : Nat) (t : TypeId) (k : Nat) (v : Value) (n : Nat) (xs : List Value) : Prop :=
  xs.length = n * k ∧ ((v = .slice none 0 0 ∧ n = 0) ∨ ∃ g off cap cur, v = .slice (some ⟨g, off, none⟩) n cap ∧ lo ≤ g ∧ Blk w g t cur ∧ n ≤ cap ∧ cap ≤ maxLen ∧ off + cap * k ≤ cur.size ∧ ∀ (j : Nat) u, xs[j]? = some u → cur[off + j]? = some u)
theorem OwnO.nil (w : World) (lo : Nat) (t : TypeId) (k : Nat) : OwnO w lo t k (.slice none 0 0) 0 [] := ⟨by simp, .inl ⟨rfl, rfl⟩⟩
theorem OwnO.of_row {w : World} {lo : Nat} {t : TypeId} {k : Nat} {v : Value} {n : Nat} {xs : List Value} (h : w.ownsRow lo t k v n xs) : OwnO w lo t k v n xs := by
  refine ⟨h.1, ?_⟩
  rcases h.2 with h1 | ⟨g, cap, cur, h1, h2, h3, h4, h5, h6, h7⟩
  · exact .inl h1
  · refine .inr ⟨g, 0, cap, cur, h1, h2, h3, h4, h5, by omega, fun j u hu => ?_⟩
    have hj : j < n * k := by rw [← h.1]; exact (List.getElem?_eq_some_iff.1 hu).1
    rw [← h7, List.getElem?_take_of_lt hj] at hu
    rw [Nat.zero_add, ← hu]
    simp
theorem OwnO.shape {w : World} {lo : Nat} {t : TypeId} {k : Nat} {v : Value} {n : Nat} {xs : List Value} (h : OwnO w lo t k v n xs) : ∃ ao c, v = .slice ao n c := by
  rcases h.2 with ⟨h1, h2⟩ | ⟨g, off, cap, cur, h1, _⟩
  · exact ⟨none, 0, by rw [h1, h2]⟩
  · exact ⟨_, _, h1⟩
theorem OwnO.lt {w : World} {lo : Nat} {t : TypeId} {k : Nat} {v : Value} {n : Nat} {xs : List Value} (h : OwnO w lo t k v n xs) : ∀ q, v.ownBlock = some q → lo ≤ q ∧ q < w.heap.size := fun q hq => by
  rcases h.2 with ⟨h1, h2⟩ | ⟨g, off, cap, cur, h1, h2, h3, _⟩
  · rw [h1] at hq; cases hq
  · rw [h1] at hq; cases hq
    exact ⟨h2, h3.lt⟩
theorem OwnO.chg {S : Nat → Prop} {w w' : World} {lo : Nat} {t : TypeId} {k : Nat} {v : Value} {n : Nat} {xs : List Value} (h : OwnO w lo t k v n xs) (hc : Chg S w w') (hv : ∀ q, v.ownBlock = some q → ¬ S q) : OwnO w' lo t k v n xs := by
  refine ⟨h.1, ?_⟩
  rcases h.2 with h1 | ⟨g, off, cap, cur, h1, h2, h3, h4⟩
  · exact .inl h1
  · exact .inr ⟨g, off, cap, cur, h1, h2, h3.chg hc (hv g (by rw [h1]; rfl)), h4⟩
theorem OwnO.after {w w' : World} {lo : Nat} {t : TypeId} {k : Nat} {v : Value} {n : Nat} {xs : List Value} (h : OwnO w lo t k v n xs) (hb : Below w.heap.size w w') : OwnO w' lo t k v n xs :=
  h.chg (S := fun _ => False) (Chg.of_below hb (Nat.le_refl _)) (fun _ _ => id)
theorem OwnO.mono {w : World} {lo lo' : Nat} {t : TypeId} {k : Nat} {v : Value} {n : Nat} {xs : List Value} (h : OwnO w lo t k v n xs) (hl : lo' ≤ lo) : OwnO w lo' t k v n xs := by
  refine ⟨h.1, ?_⟩
  rcases h.2 with h1 | ⟨g, off, cap, cur, h1, h2, h3⟩
  · exact .inl h1
  · exact .inr ⟨g, off, cap, cur, h1, Nat.le_trans hl h2, h3⟩
/-- Where its cells lie. -/
theorem OwnO.form {w : World} {lo : Nat} {t : TypeId} {k : Nat} {v : Value} {n : Nat} {xs : List Value} (h : OwnO w lo t k v n xs) (hn : 0 < n) : ∃ g off cap, v = .slice (some ⟨g, off, none⟩) n cap ∧ lo ≤ g ∧ g < w.heap.size ∧ n ≤ cap ∧ ∀ (j : Nat) u, xs[j]? = some u → w.cell? ⟨g, off + j, none⟩ = some u := by
  rcases h.2 with ⟨_, h1⟩ | ⟨g, off, cap, cur, h1, h2, h3, h4, _, _, h5⟩
  · omega
  · exact ⟨g, off, cap, h1, h2, h3.lt, h4, fun j u hu => h3.cell (h5 j u hu)⟩
/-- Its rest. -/
theorem OwnO.drop {w : World} {lo : Nat} {t : TypeId} {k : Nat} {v : Value} {n : Nat} {xs : List Value} (h : OwnO w lo t k v n xs) (d : Nat) (hd : d ≤ n) (ao : Option Addr) (c : Nat) (hv : v = .slice ao n c) :
    OwnO w lo t k (.slice (if c = d then ao else ao.map (·.add (d * k))) (n - d) (c - d)) (n - d) (xs.drop (d * k)) ∧ (Value.slice (if c = d then ao else ao.map (·.add (d * k))) (n - d) (c - d)).ownBlock = v.ownBlock := by
  obtain ⟨h0, h⟩ := h
  rcases h with ⟨h1, h2⟩ | ⟨g, off, cap, cur, h1, h2, h3, h4, h5, h6, h7⟩
  · rw [hv] at h1
    cases h1
    obtain rfl : d = 0 := by omega
    subst hv
    refine ⟨⟨by simpa using h0, .inl ⟨by simp, rfl⟩⟩, by simp⟩
  · rw [hv] at h1
    cases h1
    have hl : (xs.drop (d * k)).length = (n - d) * k := by rw [List.length_drop, h0, Nat.sub_mul]
    by_cases hc : c = d
    · rw [if_pos hc]
      have hnd : n = d := by omega
      subst hv
      refine ⟨⟨hl, .inr ⟨g, off, c - d, cur, rfl, h2, h3, by omega, by omega, ?_, fun j u hu => ?_⟩⟩, rfl⟩
      · rw [hc, Nat.sub_self, Nat.zero_mul, Nat.add_zero]
        omega
      · have : j < (xs.drop (d * k)).length := (List.getElem?_eq_some_iff.1 hu).1
        rw [hl, hnd, Nat.sub_self, Nat.zero_mul] at this
        omega
    · rw [if_neg hc, Option.map_some, Addr.add_mid]
      subst hv
      refine ⟨⟨hl, .inr ⟨g, off + d * k, c - d, cur, rfl, h2, h3, by omega, by omega, ?_, fun j u hu => ?_⟩⟩, rfl⟩
      · rw [Nat.add_assoc, ← Nat.add_mul, show d + (c - d) = c by omega]
        exact h6
      · rw [List.getElem?_drop] at hu
        rw [Nat.add_assoc]
        exact h7 _ u hu
/-- append, whatever is put behind it. -/
theorem OwnO.app {w : World} {lo : Nat} {t : TypeId} {k : Nat} {v : Value} {n : Nat} {xs : List Value} (h : OwnO w lo t k v n xs) (ts : TypeId) (i : TypeInfo) (z : Value) (bytes : Nat) (ht : Try.prog.underlying ts = some (.slice t)) (hi : Try.prog.info? t = some i) (hz : i.zero = some z) (hsize : i.size = k) (hby : i.bytes = bytes) (hzs : z.cells.size = k) (hk : 0 < k)
    (a : Addr) (m c : Nat) (news : List Value) (hl : news.length = m * k) (hnews : ∀ j u, news[j]? = some u → w.cell? (a.add j) = some u) (h1 : ∀ u ∈ news, u.oneCell' = true) (h63 : n + m ≤ maxLen) (hbytes : (n + m) * bytes ≤ 140737488355328) (hlo : lo ≤ w.heap.size) :
    ∃ v' w', (∀ ty, (Builtin.append_ #[ts, ts] ty #[v, .slice (some a) m c]).run Try.prog w = .ok v' w') ∧ OwnO w' lo t k v' (n + m) (xs ++ news) ∧ w.grownBy w' v.ownBlock ∧ (v'.ownBlock = v.ownBlock ∨ v'.ownBlock = some w.heap.size) := by
  obtain ⟨h0, h⟩ := h
  rcases h with ⟨h2, h3⟩ | ⟨g, off, cap, cur, h2, h3, h4, h5, h6, h7, h8⟩
  · subst h2
    subst h3
    obtain rfl : xs = [] := List.eq_nil_of_length_eq_zero (by simpa using h0)
    obtain ⟨v', w', r1, r2, r3, _, r5⟩ := run_append_own_at (P := Try.prog) w lo ts ts t i z k bytes ht hi hz hsize hby hzs hk (.slice none 0 0) 0 [] (World.ownsRow_nil w lo t k) a m c news hl hnews h1 h63 hbytes hlo
    exact ⟨v', w', fun _ => r1, OwnO.of_row r2, r3, r5⟩
  · subst h2
    by_cases hr : n + m ≤ cap
    · subst hsize
      have hfit : off + n * i.size + news.length ≤ cur.size := by
        have := Nat.mul_le_mul_right i.size hr
        rw [Nat.add_mul] at this
        omega
      have hrun := fun ty => run_append_room_cells (P := Try.prog) w ts ty t i ht hi g off n cap a m c news hl hnews h1 hr (fun j hj => by
        rw [h4.cell (v := cur[off + n * i.size + j]'(by omega)) (by simp [show off + n * i.size + j < cur.size by omega])]
        rfl) (fun j _ => h4.frozen _)
      have hkW : Blk (w.setCells g (off + n * i.size) news) g t (splice cur.toList (off + n * i.size) news).toArray := Blk.setCells news (off + n * i.size) w cur h4 (by omega)
      refine ⟨_, _, hrun, ⟨by rw [List.length_append, h0, hl, Nat.add_mul], .inr ⟨g, off, cap, _, rfl, h3, hkW, hr, h6, ?_, fun j u hu => ?_⟩⟩, (grown_setCells g news (off + n * i.size) w).1, .inl rfl⟩
      · rw [List.size_toArray]
        unfold splice
        simp only [List.length_append, List.length_take, List.length_drop, Array.length_toList]
        omega
      · unfold splice
        rw [List.getElem?_toArray]
        rcases Nat.lt_or_ge j (n * i.size) with hj | hj
        · rw [List.getElem?_append_left (by omega)] at hu
          have hc := h8 j u hu
          rw [List.getElem?_append_left (by simp only [List.length_take, Array.length_toList]; omega), List.getElem?_take_of_lt (by omega)]
          simpa using hc
        · rw [List.getElem?_append_right (by omega), h0] at hu
          have hj2 : j - n * i.size < news.length := (List.getElem?_eq_some_iff.1 hu).1
          have hlt : (cur.toList.take (off + n * i.size)).length = off + n * i.size := by simp only [List.length_take, Array.length_toList]; omega
          rw [List.getElem?_append_right (by rw [hlt]; omega), hlt, List.getElem?_append_left (by omega), show off + j - (off + n * i.size) = j - n * i.size by omega]
          exact hu
    · have hge := grownCap_ge w (n + m) cap t
      have hcm : grownCap w (n + m) cap t ≤ maxLen := grownCap_le_maxLen w (n + m) cap t h63
      subst hby
      have hr1 := fun ty => run_append_grow (P := Try.prog) w ts ty t i z ht hi hz ⟨g, off, none⟩ n cap xs (by rw [hsize]; exact h0) (fun j u hj => by rw [Addr.add_lit]; exact h4.cell (h8 j u hj)) a m c news (by rw [hsize]; exact hl) hnews (by omega) (by unfold maxLen at h63; omega) (growslice_fits (by omega) hbytes)
      refine ⟨_, _, hr1, ⟨by rw [List.length_append, h0, hl, Nat.add_mul], .inr ⟨w.heap.size, 0, _, _, rfl, hlo, heap_alloc_new w.drew _, hge, hcm, ?_, fun j u hu => ?_⟩⟩, ⟨rfl, rfl, rfl, by simp, fun q hq _ => heap_alloc_old w.drew _ hq⟩, .inr rfl⟩
      · simp only [Array.size_append, List.size_toArray, size_zeroCells, hzs, h0, hl]
        rw [Nat.zero_add, ← Nat.add_mul, ← Nat.add_mul]
        exact Nat.mul_le_mul_right _ (by omega)
      · rw [Nat.zero_add, Array.getElem?_append_left (by have := (List.getElem?_eq_some_iff.1 hu).1; simpa using this), List.append_toArray, List.getElem?_toArray]
        exact hu
/-- Nothing is put behind it. -/
theorem OwnO.app_none {w : World} {lo : Nat} {t : TypeId} {k : Nat} {v : Value} {n : Nat} {xs : List Value} (h : OwnO w lo t k v n xs) (ts ty : TypeId) (i : TypeInfo) (ht : Try.prog.underlying ts = some (.slice t)) (hi : Try.prog.info? t = some i) :
    (Builtin.append_ #[ts, ts] ty #[v, .slice none 0 0]).run Try.prog w = .ok v w := by
  rcases h.2 with ⟨rfl, rfl⟩ | ⟨g, off, cap, cur, rfl, _, _, h5, _⟩
  · simp [Builtin.append_, run_underlying ht, sizeOf, typeInfo, hi, Builtin.lenOf, Builtin.firstCells]
  · simp [Builtin.append_, run_underlying ht, sizeOf, typeInfo, hi, Builtin.lenOf, Builtin.firstCells, loadCells, h5, storeCells]
end Go.Proofs.Ytichmnbhephkkaa
