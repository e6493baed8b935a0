/-
  What is proved here: plain facts on plans, for the statements of layer 15: a plan of turned devices, all waves together, a plan without one device, how many devices the waves hold; and on what is judged with more, and with less.
  Conditions: those that each fact names.
-/
import Derived.Test.YtnagdgkkkkpekabDoorWavePure
namespace Go.Proofs.YtnagdgkkkkpekabDoor
open Go.RowKit

theorem plan_flat {c : Int} {ds ps : List Int} (h : (planW c ds ps).2 = 0) : (planW c ds ps).1.flatten = sortW c ds := by
  obtain ⟨hb, _, e⟩ := planW_ok h
  rw [e]
  refine cutW_all _ _ ?_
  cases hp : partsW ps with
  | true => rfl
  | false => exact absurd (.inr (.inr hp)) hb
theorem plan_one {c : Int} {ds : List Int} (h : (planW c ds [100]).2 = 0) : (planW c ds [100]).1 = [sortW c ds] := by
  obtain ⟨_, _, e⟩ := planW_ok h
  rw [e]
  show cutW (sortW c ds) 0 [100] = _
  unfold cutW cutW
  rw [upW_all, Nat.sub_zero, List.drop_zero, List.take_length]
theorem erase_filter : ∀ (l : List Int) (k : Nat) (h : k < l.length), l.Nodup → l.take k ++ l.drop (k + 1) = l.filter (fun x => decide (x ≠ l[k]))
  | [], _, h, _ => by simp at h
  | x :: l, 0, _, hn => by
    rw [List.nodup_cons] at hn
    rw [List.take_zero, List.nil_append, List.drop_succ_cons, List.drop_zero, List.getElem_cons_zero, List.filter_cons_of_neg (by simp)]
    refine (List.filter_eq_self.2 fun y hy => ?_).symm
    rw [decide_eq_true_iff]
    rintro rfl
    exact hn.1 hy
  | x :: l, k + 1, h, hn => by
    rw [List.nodup_cons] at hn
    have hk : k < l.length := by simpa using h
    have ih := erase_filter l k hk hn.2
    rw [List.take_succ_cons, List.drop_succ_cons, List.getElem_cons_succ, List.cons_append, ih, List.filter_cons_of_pos]
    rw [decide_eq_true_iff]
    rintro e
    exact hn.1 (e ▸ List.getElem_mem hk)
theorem plan_less {c : Int} {ds : List Int} (k : Nat) (hk : k < ds.length) (h : (planW c ds [100]).2 = 0) : planW c (ds.take k ++ ds.drop (k + 1)) [100] = ([(sortW c ds).filter (fun x => decide (x ≠ ds[k]))], 0) := by
  obtain ⟨hb, hn, _⟩ := planW_ok h
  have he := erase_filter ds k hk hn
  have hb2 : ¬ badW c (ds.take k ++ ds.drop (k + 1)) [100] := by
    unfold badW at *
    rintro (h1 | ⟨d, hd, h1⟩ | h1)
    · exact hb (.inl h1)
    · refine hb (.inr (.inl ⟨d, ?_, h1⟩))
      rw [he] at hd
      exact (List.mem_filter.1 hd).1
    · exact hb (.inr (.inr h1))
  have hn2 : (ds.take k ++ ds.drop (k + 1)).Nodup := by rw [he]; exact hn.filter _
  have h2 : (planW c (ds.take k ++ ds.drop (k + 1)) [100]).2 = 0 := by
    unfold planW
    rw [if_neg hb2, if_neg (by simpa using hn2)]
  have h3 := plan_one h2
  rw [he, sortW_filter] at h3
  exact Prod.ext (by rw [he]; exact h3) h2
/-- A wave ends with no less than its part, and less than one device more. -/
theorem upW_part (n : Nat) (p : Int) (h : 0 ≤ p) : p * n ≤ 100 * ((upW n p : Nat) : Int) ∧ (100 * (((upW n p : Nat) : Int) - 1) < p * n ∨ upW n p = 0) := by
  have h1 := upW_int n h
  have h2 : 0 ≤ p * (n : Int) := Int.mul_nonneg h (by omega)
  generalize p * (n : Int) = q at *
  omega
/-- How many devices the first waves hold. -/
def cntW (rs : List (List Int)) (k : Nat) : Nat := ((rs.take k).map List.length).sum
theorem cntW_succ (rs : List (List Int)) (k : Nat) (h : k < rs.length) : cntW rs (k + 1) = cntW rs k + rs[k].length := by
  unfold cntW
  rw [List.take_add_one, List.getElem?_eq_getElem h, List.map_append, List.sum_append]
  simp
theorem cntW_flat (rs : List (List Int)) (k : Nat) : cntW rs k = (rs.take k).flatten.length := by
  unfold cntW
  rw [List.length_flatten]
theorem plan_count {c : Int} {ds ps : List Int} (h : (planW c ds ps).2 = 0) (k : Nat) (hk : k < ps.length) : cntW (planW c ds ps).1 (k + 1) = upW ds.length ps[k] ∧ 1 ≤ ps[k] ∧ ps[k] ≤ 100 := by
  obtain ⟨hb, _, e⟩ := planW_ok h
  have hp : partsW ps = true := by
    cases hp : partsW ps with
    | true => rfl
    | false => exact absurd (.inr (.inr hp)) hb
  have hr : riseW 0 ps = true := by unfold partsW at hp; rw [Bool.and_eq_true] at hp; exact hp.2
  have h1 := cutW_upto (sortW c ds) ps 0 k ps[k] hr (List.getElem?_eq_getElem hk)
  rw [upW_zero, sortW_len] at h1
  have h2 := riseW_at ps 0 k _ hr (List.getElem?_eq_getElem hk)
  refine ⟨?_, by omega, h2.2⟩
  rw [e]
  exact h1
theorem plan_len {c : Int} {ds ps : List Int} (h : (planW c ds ps).2 = 0) : (planW c ds ps).1.length = ps.length := by
  obtain ⟨_, _, e⟩ := planW_ok h
  rw [e]
  exact cutW_len _ _ _
theorem plan_short {c : Int} {ds ps : List Int} (h : (planW c ds ps).2 = 0) : ps.length ≤ 8 := by
  obtain ⟨hb, _, _⟩ := planW_ok h
  cases hp : partsW ps with
  | true => unfold partsW at hp; rw [Bool.and_eq_true, decide_eq_true_iff] at hp; exact hp.1
  | false => exact absurd (.inr (.inr hp)) hb
theorem planW_code (c : Int) (ds ps : List Int) : (planW c ds ps).2 = 0 ∨ (planW c ds ps).2 = 1 ∨ (planW c ds ps).2 = 5 := by
  unfold planW
  by_cases h1 : badW c ds ps
  · rw [if_pos h1]; exact .inr (.inl rfl)
  · rw [if_neg h1]
    by_cases h2 : ds.Nodup
    · rw [if_neg (by simpa using h2)]; exact .inl rfl
    · rw [if_pos h2]; exact .inr (.inr rfl)
theorem planW_size (c : Int) (ds ps : List Int) (hp : ps.length ≤ 1000) : (planW c ds ps).1.length ≤ 1000 ∧ ∀ r ∈ (planW c ds ps).1, r.length ≤ ds.length := by
  by_cases h : (planW c ds ps).2 = 0
  · refine ⟨by rw [plan_len h]; exact hp, fun r hr => ?_⟩
    have h1 := plan_flat h
    have h2 : (planW c ds ps).1.flatten.length = ds.length := by rw [h1, sortW_len]
    rw [← h2]
    exact (List.sublist_flatten_of_mem hr).length_le
  · rw [(planW_no h).1]
    exact ⟨by simp, fun r hr => by cases hr⟩
end Go.Proofs.YtnagdgkkkkpekabDoor
