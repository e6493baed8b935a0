/-
  What is proved here: the map from devices to the numbers of their open leases.
  Conditions: those that each fact names.
-/
import Derived.Test.YthlohlomefiebaaProg
import Derived.Test.YthlohlomefiebaaLePure
import Derived.Test.YthlohlomefiebaaChgKit
import Derived.Maps.OwnSet
namespace Go.Proofs.Ythlohlomefiebaa
open Go.RowKit Go.Maps

noncomputable abbrev numR : Value → Option (DataW Unit × List MemPlace) := plainElem Try.prog 3
theorem keyE : Keyed Try.prog 3 := int_keyed Try.underlying3
theorem key_intE (k : Int) (h1 : -9223372036854775808 ≤ k) (h2 : k ≤ 9223372036854775807) : keyOf Try.prog 3 (.int .i64 k) = some (.int .i64 k) := keyOf_int_mk Try.underlying3 (WalkArith.wf_i64 (by omega))
theorem numR_mk (s : Int) (h1 : -9223372036854775808 ≤ s) (h2 : s ≤ 9223372036854775807) : numR (.int .i64 s) = some (.lit (.int .i64 s), []) := plainElem_int Try.underlying3 (WalkArith.wf_i64 (by omega))
theorem zeroE (w : World) : (zeroValue 3).run Try.prog w = .ok (.int .i64 0) w := by kernel_rfl
def opens (l : List LE) : List LE := l.filter (fun e => decide (0 < e.u))
/-- What the map holds. -/
structure HoldsT (D : DataW Unit) (l : List LE) : Prop where
  has : ∀ q : Int, Maps.has D (.int .i64 q) = decide (∃ e ∈ l, e.d = q ∧ 0 < e.u)
  is : ∀ e ∈ l, 0 < e.u → ∀ z, D.atKey (.int .i64 e.d) z = .lit (.int .i64 e.n)
  size : Maps.size D = (opens l).length
theorem HoldsT.nil : HoldsT (.map []) [] := ⟨fun q => (by rw [decide_eq_false (by rintro ⟨e, he, _⟩; cases he)]; rfl), (fun e he => by cases he), rfl⟩
theorem HoldsT.put {D : DataW Unit} {l : List LE} (h : HoldsT D l) (hT : Tidy D) (x : LE) (hk : WideAt.IsKeyLit (.int .i64 x.d)) (hl : openD l x.d = none) (hx : 0 < x.u) : HoldsT (D.put (.int .i64 x.d) (.lit (.int .i64 x.n))) (l ++ [x]) := by
  have hn := openD_none.1 hl
  refine ⟨fun q => ?_, fun y hy hyu z => ?_, ?_⟩
  · by_cases hq : q = x.d
    · subst hq
      rw [has_put_same hT.isMap hk, decide_eq_true ⟨x, by simp, rfl, hx⟩]
    · rw [has_put_other (by simpa using hq), h.has q]
      congr 1
      apply propext
      constructor
      · rintro ⟨e, he, k⟩; exact ⟨e, List.mem_append_left _ he, k⟩
      · rintro ⟨e, he, k⟩
        rcases List.mem_append.1 he with h1 | h1
        · exact ⟨e, h1, k⟩
        · rw [List.mem_singleton.1 h1] at k; exact absurd k.1.symm hq
  · rcases List.mem_append.1 hy with h1 | h1
    · have hne : y.d ≠ x.d := fun e => hn y h1 ⟨e, hyu⟩
      rw [atKey_put_other (by simpa using hne)]
      exact h.is y h1 hyu z
    · rw [List.mem_singleton.1 h1, atKey_put_same hT.isMap hk]
  · rw [size_put hT, h.has, decide_eq_false (by rintro ⟨e, he, k⟩; exact hn e he k), if_neg (by decide), h.size]
    unfold opens
    rw [List.filter_append, List.length_append]
    simp [hx]
theorem HoldsT.more {D : DataW Unit} {l : List LE} (h : HoldsT D l) (x : LE) (hx : ¬ 0 < x.u) : HoldsT D (l ++ [x]) := by
  refine ⟨fun q => ?_, fun y hy hyu z => ?_, ?_⟩
  · rw [h.has q]
    congr 1
    apply propext
    constructor
    · rintro ⟨e, he, k⟩; exact ⟨e, List.mem_append_left _ he, k⟩
    · rintro ⟨e, he, k⟩
      rcases List.mem_append.1 he with h1 | h1
      · exact ⟨e, h1, k⟩
      · rw [List.mem_singleton.1 h1] at k; exact absurd k.2 hx
  · rcases List.mem_append.1 hy with h1 | h1
    · exact h.is y h1 hyu z
    · rw [List.mem_singleton.1 h1] at hyu; exact absurd hyu hx
  · rw [h.size]
    unfold opens
    rw [List.filter_append, List.length_append]
    simp [hx]
theorem HoldsT.turn {D : DataW Unit} {l : List LE} (h : HoldsT D l) {i : Nat} {e : LE} (hi : l[i]? = some e) (he : 0 < e.u) (u : Int) (hu : 0 < u) : HoldsT D (l.set i ⟨e.n, e.d, u⟩) := by
  have hm : e ∈ l := List.mem_iff_getElem?.2 ⟨i, hi⟩
  obtain ⟨h1, h2⟩ := set_split hi ⟨e.n, e.d, u⟩
  have hl : i < l.length := (List.getElem?_eq_some_iff.1 hi).1
  refine ⟨fun q => ?_, fun y hy hyu z => ?_, ?_⟩
  · rw [h.has q]
    congr 1
    apply propext
    constructor
    · rintro ⟨f, hf, k⟩
      obtain ⟨j, hj⟩ := List.mem_iff_getElem?.1 hf
      by_cases hij : i = j
      · subst hij
        rw [hi] at hj; cases hj
        exact ⟨⟨e.n, e.d, u⟩, List.mem_iff_getElem?.2 ⟨i, by rw [List.getElem?_set, if_pos rfl, if_pos hl]⟩, k.1, hu⟩
      · exact ⟨f, List.mem_iff_getElem?.2 ⟨j, by rw [List.getElem?_set, if_neg hij]; exact hj⟩, k⟩
    · rintro ⟨f, hf, k⟩
      rcases mem_set hf with rfl | ⟨j, _, hj⟩
      · exact ⟨e, hm, k.1, he⟩
      · exact ⟨f, List.mem_iff_getElem?.2 ⟨j, hj⟩, k⟩
  · rcases mem_set hy with rfl | ⟨j, _, hj⟩
    · exact h.is e hm he z
    · exact h.is y (List.mem_iff_getElem?.2 ⟨j, hj⟩) hyu z
  · rw [h.size]
    unfold opens
    rw [h2]
    conv => lhs; rw [h1]
    simp [List.filter_append, he, hu]
theorem HoldsT.del {D : DataW Unit} {l : List LE} (h : HoldsT D l) (hT : Tidy D) (ok : OkT l) {i : Nat} {e : LE} (hi : l[i]? = some e) (he : 0 < e.u) : HoldsT (D.del (.int .i64 e.d)) (l.set i e.off) := by
  have hm : e ∈ l := List.mem_iff_getElem?.2 ⟨i, hi⟩
  obtain ⟨h1, h2⟩ := set_split hi e.off
  have hne : ∀ (j : Nat) f, j ≠ i → l[j]? = some f → 0 < f.u → f.d ≠ e.d := fun j f hj hf hfu hd => hj (ok.one j i f e hf hi hfu he hd)
  refine ⟨fun q => ?_, fun y hy hyu z => ?_, ?_⟩
  · by_cases hq : q = e.d
    · subst hq
      rw [has_del_same]
      symm
      rw [decide_eq_false_iff_not]
      rintro ⟨f, hf, k1, k2⟩
      rcases mem_set hf with rfl | ⟨j, hj1, hj⟩
      · exact absurd k2 (by show ¬ (0 : Int) < 0; omega)
      · exact hne j f hj1 hj k2 k1
    · rw [has_del_other (by simpa using hq), h.has q]
      congr 1
      apply propext
      constructor
      · rintro ⟨f, hf, k⟩
        obtain ⟨j, hj⟩ := List.mem_iff_getElem?.1 hf
        have hij : i ≠ j := fun e2 => by subst e2; rw [hi] at hj; cases hj; exact hq k.1.symm
        exact ⟨f, List.mem_iff_getElem?.2 ⟨j, by rw [List.getElem?_set, if_neg hij]; exact hj⟩, k⟩
      · rintro ⟨f, hf, k⟩
        rcases mem_set hf with rfl | ⟨j, _, hj⟩
        · exact absurd k.2 (by show ¬ (0 : Int) < 0; omega)
        · exact ⟨f, List.mem_iff_getElem?.2 ⟨j, hj⟩, k⟩
  · rcases mem_set hy with rfl | ⟨j, hj1, hj⟩
    · exact absurd hyu (by show ¬ (0 : Int) < 0; omega)
    · rw [atKey_del_other (by simpa using hne j y hj1 hj hyu)]
      exact h.is y (List.mem_iff_getElem?.2 ⟨j, hj⟩) hyu z
  · have := size_del (k := .int .i64 e.d) hT
    rw [h.has, decide_eq_true ⟨e, hm, rfl, he⟩, if_pos rfl, h.size] at this
    have e1 : (opens l).length = (opens (l.take i)).length + (1 + (opens (l.drop (i + 1))).length) := by
      conv => lhs; rw [h1]
      unfold opens
      simp [List.filter_append, he]
      omega
    have e2 : (opens (l.set i e.off)).length = (opens (l.take i)).length + (opens (l.drop (i + 1))).length := by
      rw [h2]
      unfold opens
      simp [List.filter_append, LE.off]
    omega
theorem own_chgE {S : Nat → Prop} {w w' : World} {b m : Nat} {D : DataW Unit} (h : w.ownsMap Try.prog 3 numR b m D) (hc : Chg S w w') (hb : ¬ S b) : w'.ownsMap Try.prog 3 numR b m D := by
  have hl := h.lt
  obtain ⟨es, clock, h1, r⟩ := h
  exact ⟨es, clock, (hc.2 b hl hb).trans h1, r⟩
/-- What a look at the map tells: the number, and whether there is one. -/
def numOf (l : List LE) (q : Int) : Int := ((openD l q).getD noLE).n
theorem has_open {l : List LE} {q : Int} : decide (∃ e ∈ l, e.d = q ∧ 0 < e.u) = (openD l q).isSome := by
  cases hO : openD l q with
  | none =>
    rw [decide_eq_false]
    · rfl
    · rintro ⟨e, he, k⟩
      exact openD_none.1 hO e he k
  | some e =>
    obtain ⟨h1, h2, h3⟩ := openD_some hO
    rw [decide_eq_true ⟨e, h1, h2, h3⟩]
    rfl
theorem look_okE {w : World} {b m : Nat} {D : DataW Unit} {l : List LE} (hown : w.ownsMap Try.prog 3 numR b m D) (hH : HoldsT D l) (q : Int) (h1 : -9223372036854775808 ≤ q) (h2 : q ≤ 9223372036854775807) :
    (Instr.lookup 49 (.map (some b)) (.int .i64 q) true).run Try.prog w = .ok (.tuple #[.int .i64 (numOf l q), .bool (openD l q).isSome]) w := by
  obtain ⟨v, ps, hrun, hv⟩ := hown.look_ok keyE Try.underlying49 (zeroE w) (numR_mk 0 (by omega) (by omega)) (key_intE q h1 h2)
  obtain ⟨a, rfl, e, _⟩ := plainElem_int_inv Try.underlying3 hv
  rw [hrun, hH.has, has_open]
  unfold numOf
  cases hO : openD l q with
  | none =>
    rw [atKey_of_not_has (by rw [hH.has, has_open, hO]; rfl)] at e
    have : (0 : Int) = a := (by simpa using e : (0 : Int) = a ∧ ps = []).1
    rw [← this]
    rfl
  | some f =>
    obtain ⟨g1, g2, g3⟩ := openD_some hO
    subst g2
    rw [hH.is f g1 g3] at e
    have : f.n = a := (by simpa using e : f.n = a ∧ ps = []).1
    rw [← this]
    rfl
end Go.Proofs.Ythlohlomefiebaa
