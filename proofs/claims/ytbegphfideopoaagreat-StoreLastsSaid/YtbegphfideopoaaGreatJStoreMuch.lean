/-
  What is proved here: whether steps are more than a test should have.
  Conditions: the steps lie in memory.
-/
import Derived.Test.YtbegphfideopoaaGreatJStoreOps
namespace Go.Proofs.YtbegphfideopoaaGreat
open Go.RowKit

/-- What is asked of a step: its changes, how many bytes it has, how many sectors stay. -/
structure StepQ where
  cs : List (List OpB)
  bn : Nat
  sn : Nat
def StepsV (w : World) (v : Value) (l : List StepQ) : Prop := ∃ ao c, v = .slice ao l.length c ∧ l.length ≤ maxLen ∧ ∀ (i : Nat) s, l[i]? = some s → ∃ b off, ao = some ⟨b, off, none⟩ ∧ (∃ u, w.cell? ⟨b, off + i * 6 + 1, none⟩ = some u ∧ ChgsV w u s.cs) ∧ (∃ a d, w.cell? ⟨b, off + i * 6 + 4, none⟩ = some (.slice a s.bn d)) ∧ ∃ a d, w.cell? ⟨b, off + i * 6 + 5, none⟩ = some (.slice a s.sn d)
theorem index_steps (b off len c : Nat) (I : Nat) (h : I < len) (w : World) : (Instr.indexAt 22 (.slice (some ⟨b, off, none⟩) len c) (.int .i64 (I : Int))).run Tryz.prog w = .ok (.pointer (some ⟨b, off + I * 6, none⟩)) w := by
  have hi : (0 : Int) ≤ (I : Int) ∧ (I : Int) < (len : Int) := by omega
  simp [Instr.indexAt, asIntOf, run_underlying Tryz.underlying22, hi, Addr.add_mid]
  first | rfl | (intro h'; omega)
def opFew (o : OpB) : Prop := o.key.length ≤ 200 ∧ o.val.length ≤ 3000
def chgFew (c : List OpB) : Prop := c.length ≤ 50 ∧ ∀ o ∈ c, opFew o
def stepFew (s : StepQ) : Prop := (s.cs.length ≤ 30 ∧ ∀ c ∈ s.cs, chgFew c) ∧ s.bn ≤ 1000
theorem mem_take_succ {α : Type} {l : List α} {I : Nat} {x : α} (hx : l[I]? = some x) {P : α → Prop} (h : ∀ y ∈ l.take I, P y) (h1 : P x) : ∀ y ∈ l.take (I + 1), P y := fun y hy => by
  rw [List.take_add_one, hx] at hy
  rcases List.mem_append.1 hy with e | e
  · exact h y e
  · simp at e
    rw [e]; exact h1
def MuchOk (l : List StepQ) (e : Ending) (w w' : World) : Prop := ∃ r, e = .returned (.bool r) ∧ (r = false → ∀ i s, l[i]? = some s → i < 100 → stepFew s) ∧ w' = w
set_option maxRecDepth 100000 in
set_option maxHeartbeats 4000000 in
theorem much8_any (v : Value) (l : List StepQ) (w : World) (h : StepsV w v l) :
    Calls Tryz.prog 10 #[v] w fun e w' => MuchOk l e w w' := by
  obtain ⟨ao, c, rfl, hm, hat⟩ := h
  have HAT : Hid (∀ (i : Nat) s, l[i]? = some s → ∃ b off, ao = some ⟨b, off, none⟩ ∧ (∃ u, w.cell? ⟨b, off + i * 6 + 1, none⟩ = some u ∧ ChgsV w u s.cs) ∧ (∃ a d, w.cell? ⟨b, off + i * 6 + 4, none⟩ = some (.slice a s.bn d)) ∧ ∃ a d, w.cell? ⟨b, off + i * 6 + 5, none⟩ = some (.slice a s.sn d)) := hat
  have HYES : Hid (MuchOk l (.returned (.bool true)) w w) := ⟨true, rfl, fun h => by (cases h), rfl⟩
  unfold maxLen at hm
  clear hat
  go_enter Tryz.func10, Tryz.ntmps10
  go_wp2_with fail
  go_loop [3, 4] (fun n i => ∃ N I : Nat, n = .int .i64 (N : Int) ∧ N ≤ 40000 ∧ i = .int .i64 (I : Int) ∧ I ≤ l.length ∧ I ≤ 100 ∧ ∀ (j : Nat) s, l[j]? = some s → j < I → stepFew s) (fun _ i => 100 - (intOf i).toNat)
  case atStart => exact ⟨0, 0, rfl, Nat.zero_le _, rfl, Nat.zero_le _, Nat.zero_le _, fun _ _ _ h => by cases h⟩
  case round =>
    obtain ⟨N, I, rfl, hN, rfl, hI, hI2, hall⟩ := hrel
    have hall : Hid (∀ (j : Nat) s, l[j]? = some s → j < I → stepFew s) := hall
    by_cases hlt : I < l.length
    case neg =>
      have i1 : ¬ (I : Int) < (l.length : Int) := by omega
      go_wp2_with fail
      go_ret
      exact ⟨false, rfl, fun _ i s hs _ => hall.out i s hs (by have := (List.getElem?_eq_some_iff.1 hs).1; omega), rfl⟩
    have i1 : (I : Int) < (l.length : Int) := by omega
    by_cases hlt2 : I < 100
    case neg =>
      have i2 : ¬ (I : Int) < 100 := by omega
      go_wp2_with fail
      go_ret
      exact ⟨false, rfl, fun _ i s hs h => hall.out i s hs (by omega), rfl⟩
    have i2 : (I : Int) < 100 := by omega
    have hg : l[I]? = some l[I] := List.getElem?_eq_getElem hlt
    obtain ⟨s, hs⟩ : ∃ s, l[I] = s := ⟨_, rfl⟩
    rw [hs] at hg
    clear hs
    obtain ⟨b, off, rfl, ⟨u, hu, hcs⟩, ⟨ba, bd, hb⟩, ⟨sa, sd, hsn⟩⟩ := HAT.out I s hg
    have hix := index_steps b off l.length c I hlt
    have HG : Hid (l[I]? = some s) := hg
    clear hg
    obtain ⟨ca, cd, rfl, hcm, hct⟩ := hcs
    have HCT : Hid (∀ (i : Nat) ops, s.cs[i]? = some ops → ∃ b off, ca = some ⟨b, off, none⟩ ∧ b < w.heap.size ∧ ∃ u, w.cell? ⟨b, off + i, none⟩ = some u ∧ OpsV w u ops) := hct
    clear hct
    unfold maxLen at hcm
    by_cases q1 : 1000 < s.bn
    · have j1 : (1000 : Int) < (s.bn : Int) := by omega
      go_wp2_with fail
      go_ret
      exact HYES.out
    have j1 : ¬ (1000 : Int) < (s.bn : Int) := by omega
    by_cases q2 : 5000 < s.sn
    · have j2 : (5000 : Int) < (s.sn : Int) := by omega
      go_wp2_with fail
      go_ret
      exact HYES.out
    have j2 : ¬ (5000 : Int) < (s.sn : Int) := by omega
    by_cases q3 : 30 < s.cs.length
    · have j3 : (30 : Int) < (s.cs.length : Int) := by omega
      go_wp2_with fail
      go_ret
      exact HYES.out
    have j3 : ¬ (30 : Int) < (s.cs.length : Int) := by omega
    go_wp2_with fail
    have hbn : s.bn ≤ 1000 := by omega
    clear j1 j2 j3 q1 q2 hb hsn
    go_loop [3, 5] (fun n k => ∃ N K : Nat, n = .int .i64 (N : Int) ∧ N ≤ 40000 ∧ k = .int .i64 (K : Int) ∧ K ≤ s.cs.length ∧ ∀ c ∈ s.cs.take K, chgFew c) (fun _ k => s.cs.length - (intOf k).toNat)
    case atStart => exact ⟨N, 0, rfl, hN, rfl, Nat.zero_le _, fun c hc => by simp at hc⟩
    case round =>
      clear hN
      obtain ⟨N, K, rfl, hN, rfl, hK, hfew0⟩ := hrel
      have hfew : Hid (∀ c ∈ s.cs.take K, chgFew c) := hfew0
      clear hfew0
      by_cases hk : K < s.cs.length
      case neg =>
        have k1 : ¬ (K : Int) < (s.cs.length : Int) := by omega
        go_wp2_with fail
        go_round
        case rel => exact ⟨N, I + 1, rfl, hN, by go_num, by omega, by omega, fun j t ht hj => by
          by_cases hjI : j < I
          · exact hall.out j t ht hjI
          · obtain rfl : j = I := by omega
            rw [HG.out] at ht
            cases ht
            exact ⟨⟨by omega, fun c hc => hfew.out c (by rw [List.take_of_length_le (by omega)]; exact hc)⟩, hbn⟩⟩
        case measure => simp [intOf]; omega
      have k1 : (K : Int) < (s.cs.length : Int) := by omega
      have hgk : s.cs[K]? = some s.cs[K] := List.getElem?_eq_getElem hk
      obtain ⟨ops, hops⟩ : ∃ o, s.cs[K] = o := ⟨_, rfl⟩
      rw [hops] at hgk
      clear hops
      obtain ⟨b2, off2, rfl, -, u2, hu2, hop⟩ := HCT.out K ops hgk
      have hix2 := index_chgs b2 off2 s.cs.length cd K hk
      have HGK : Hid (s.cs[K]? = some ops) := hgk
      clear hgk
      obtain ⟨oa, od, rfl, hom, hot⟩ := hop
      have HOT : Hid (∀ (i : Nat) o, ops[i]? = some o → ∃ b off, oa = some ⟨b, off, none⟩ ∧ b < w.heap.size ∧ OpAt w b (off + i * 3) o) := hot
      clear hot
      unfold maxLen at hom
      by_cases q4 : 50 < ops.length
      · have j4 : (50 : Int) < (ops.length : Int) := by omega
        go_wp2_with fail
        go_ret
        exact HYES.out
      have j4 : ¬ (50 : Int) < (ops.length : Int) := by omega
      go_wp2_with fail
      clear j4
      go_loop [3, 6] (fun n j => ∃ N J : Nat, n = .int .i64 (N : Int) ∧ N ≤ 40000 ∧ j = .int .i64 (J : Int) ∧ J ≤ ops.length ∧ ∀ o ∈ ops.take J, opFew o) (fun _ j => ops.length - (intOf j).toNat)
      case atStart => exact ⟨N, 0, rfl, hN, rfl, Nat.zero_le _, fun o ho => by simp at ho⟩
      case round =>
        clear hN
        obtain ⟨N, J, rfl, hN, rfl, hJ, hof0⟩ := hrel
        have hof : Hid (∀ o ∈ ops.take J, opFew o) := hof0
        clear hof0
        by_cases hj : J < ops.length
        case neg =>
          have m1 : ¬ (J : Int) < (ops.length : Int) := by omega
          go_wp2_with fail
          go_round
          case rel => exact ⟨N, K + 1, rfl, hN, by go_num, by omega, mem_take_succ HGK.out hfew.out ⟨by omega, fun o ho => hof.out o (by rw [List.take_of_length_le (by omega)]; exact ho)⟩⟩
          case measure => simp [intOf]; omega
        have m1 : (J : Int) < (ops.length : Int) := by omega
        have hgj : ops[J]? = some ops[J] := List.getElem?_eq_getElem hj
        obtain ⟨o, ho⟩ : ∃ o, ops[J] = o := ⟨_, rfl⟩
        rw [ho] at hgj
        clear ho
        obtain ⟨b3, off3, rfl, -, ka, kc, va, vc, y0, -, y2, -, -, -, hvl⟩ := HOT.out J o hgj
        have hix3 := index_ops b3 off3 ops.length od J hj
        have HGO : Hid (ops[J]? = some o) := hgj
        clear hgj
        unfold maxLen at hvl
        by_cases q5 : 200 < o.key.length
        · have j5 : (200 : Int) < (o.key.length : Int) := by omega
          go_wp2_with fail
          go_ret
          exact HYES.out
        have j5 : ¬ (200 : Int) < (o.key.length : Int) := by omega
        by_cases q6 : 3000 < o.val.length
        · have j6 : (3000 : Int) < (o.val.length : Int) := by omega
          go_wp2_with fail
          go_ret
          exact HYES.out
        have j6 : ¬ (3000 : Int) < (o.val.length : Int) := by omega
        by_cases q7 : 40000 < N + o.val.length + 50
        · have j7 : (40000 : Int) < (N : Int) + (o.val.length : Int) + 50 := by omega
          go_wp2_with fail
          go_ret
          exact HYES.out
        have j7 : ¬ (40000 : Int) < (N : Int) + (o.val.length : Int) + 50 := by omega
        go_wp2_with fail
        go_round
        case rel => exact ⟨N + o.val.length + 50, J + 1, by go_num, by omega, by go_num, by omega, mem_take_succ HGO.out hof.out ⟨by omega, by omega⟩⟩
        case measure => simp [intOf]; omega
end Go.Proofs.YtbegphfideopoaaGreat
