/-
  What is proved here: plain facts on what Grant, Renew, End, Expire tell, and a map that counts devices.
  Conditions: those that each fact names.
-/
import Derived.Test.YthlohlomefiebaaLeExp
import Derived.Test.YthlohlomefiebaaLeSteps
namespace Go.Proofs.Ythlohlomefiebaa
open Go.RowKit Go.Maps

theorem grant_cases (l : List LE) (d now life : Int) : (∃ u, grantT l d now life = ((⟨(l.length : Int) + 1, d, u⟩, 0), l ++ [⟨(l.length : Int) + 1, d, u⟩])) ∨ ∃ f : Int, (f == 0) = false ∧ grantT l d now life = ((noLE, f), l) := by
  unfold grantT
  split
  · exact .inr ⟨1, rfl, rfl⟩
  · split
    · exact .inr ⟨5, rfl, rfl⟩
    · split
      · exact .inr ⟨3, rfl, rfl⟩
      · exact .inl ⟨_, rfl⟩
theorem renew_len (l : List LE) (n now life : Int) : (renewT l n now life).2.length = l.length := by
  unfold renewT
  split
  · rfl
  · split
    · rfl
    · split
      · rfl
      · exact List.length_set
theorem end_len (l : List LE) (n : Int) : (endT l n).2.length = l.length := by
  unfold endT
  split
  · rfl
  · exact List.length_set
theorem exp_cases (l : List LE) (now : Int) : expT l now = (([], 1), l) ∨ ∃ o l2, expT l now = ((o, 0), l2) ∧ l2.length = l.length ∧ ∀ e ∈ l2, ¬ (0 < e.u ∧ e.u ≤ now) := by
  unfold expT
  split
  · exact .inl rfl
  · refine .inr ⟨_, _, rfl, List.length_map _, fun e he h => ?_⟩
    obtain ⟨f, _, rfl⟩ := List.mem_map.1 he
    by_cases hf : overE now f = true
    · rw [if_pos hf] at h
      exact absurd h.1 (by show ¬ (0 : Int) < 0; omega)
    · rw [if_neg hf] at h
      exact hf (decide_eq_true h)
theorem fresh_v {w : World} {lo G b N R : Nat} {v v3 : Value} {l : List LE} (h : LeT w lo G b v l) (hq : ∀ q, v3.ownBlock = some q → v.ownBlock = some q ∨ N ≤ q) (h1 : w.heap.size ≤ R) (h2 : R < N) : ¬ LeM G b v3 R := by
  rintro (e | e | e)
  · have := h.lt R (.inl e); omega
  · have := h.lt R (.inr (.inl e)); omega
  · rcases hq R e with a | a
    · have := h.lt R (.inr (.inr a)); omega
    · omega
/-- The devices of the open leases. -/
def devs (l : List LE) : List Int := (opens l).map (fun e => e.d)
theorem devs_yes {l : List LE} {n : Nat} {e : LE} (h : l[n]? = some e) (hu : 0 < e.u) : devs (l.take (n + 1)) = devs (l.take n) ++ [e.d] := by
  unfold devs opens
  rw [List.take_add_one, h, List.filter_append]
  simp [hu]
theorem devs_no {l : List LE} {n : Nat} {e : LE} (h : l[n]? = some e) (hu : ¬ 0 < e.u) : devs (l.take (n + 1)) = devs (l.take n) := by
  unfold devs opens
  rw [List.take_add_one, h, List.filter_append]
  simp [hu]
theorem devs_new {l : List LE} (ok : OkT l) {n : Nat} {e : LE} (h : l[n]? = some e) (hu : 0 < e.u) : e.d ∉ devs (l.take n) := by
  intro hm
  unfold devs at hm
  obtain ⟨f, hf, hd⟩ := List.mem_map.1 hm
  obtain ⟨hf1, hf2⟩ := mem_opens.1 hf
  obtain ⟨j, hj⟩ := List.mem_iff_getElem?.1 hf1
  have hjl := (List.getElem?_eq_some_iff.1 hj).1
  rw [List.length_take] at hjl
  rw [List.getElem?_take_of_lt (by omega)] at hj
  have := ok.one j n f e hj h hf2 hu hd
  omega
/-- What a map of counts holds, where each comes once. -/
structure HoldsC (D : DataW Unit) (ds : List Int) : Prop where
  has : ∀ q : Int, Maps.has D (.int .i64 q) = decide (q ∈ ds)
  is : ∀ d ∈ ds, ∀ z, D.atKey (.int .i64 d) z = .lit (.int .i64 1)
theorem HoldsC.nil : HoldsC (.map []) [] := ⟨fun _ => rfl, (fun e he => by cases he)⟩
theorem HoldsC.put {D : DataW Unit} {ds : List Int} (h : HoldsC D ds) (hT : Tidy D) (d : Int) (hk : WideAt.IsKeyLit (.int .i64 d)) : HoldsC (D.put (.int .i64 d) (.lit (.int .i64 1))) (ds ++ [d]) := by
  refine ⟨fun q => ?_, fun y hy z => ?_⟩
  · by_cases hq : q = d
    · subst hq
      rw [has_put_same hT.isMap hk]
      simp
    · rw [has_put_other (by simpa using hq), h.has q]
      simp [hq]
  · by_cases hq : y = d
    · subst hq
      rw [atKey_put_same hT.isMap hk]
    · rw [atKey_put_other (by simpa using hq)]
      refine h.is y ?_ z
      simpa [hq] using hy
theorem lookC {w : World} {b m : Nat} {D : DataW Unit} {ds : List Int} (hown : w.ownsMap Try.prog 3 numR b m D) (hH : HoldsC D ds) (q : Int) (h1 : -9223372036854775808 ≤ q) (h2 : q ≤ 9223372036854775807) :
    (Instr.lookup 49 (.map (some b)) (.int .i64 q) false).run Try.prog w = .ok (.int .i64 (if q ∈ ds then 1 else 0)) w := by
  obtain ⟨v, ps, hrun, hv⟩ := hown.lookup keyE Try.underlying49 (zeroE w) (numR_mk 0 (by omega) (by omega)) (key_intE q h1 h2)
  obtain ⟨a, rfl, e, _⟩ := plainElem_int_inv Try.underlying3 hv
  rw [hrun]
  by_cases hq : q ∈ ds
  · rw [hH.is q hq] at e
    have : (1 : Int) = a := (by simpa using e : (1 : Int) = a ∧ ps = []).1
    rw [if_pos hq, ← this]
  · rw [atKey_of_not_has (by rw [hH.has, decide_eq_false hq])] at e
    have : (0 : Int) = a := (by simpa using e : (0 : Int) = a ∧ ps = []).1
    rw [if_neg hq, ← this]
theorem exec_allocE {a : Act} {o : Oper} {w : World} (ho : o.op = .alloc 43) : (execOp a.eval o).run Try.prog w = .ok (.value (.pointer (some ⟨w.heap.size, 0, none⟩))) (w.alloc (.cells #[.int .i64 0, .int .i64 0, .int .i64 0] 43)) := by
  unfold execOp
  simp [ho, go_sem]
end Go.Proofs.Ythlohlomefiebaa
