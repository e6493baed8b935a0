/-
  What is proved here: whether a change may be, by the document.
  Conditions: the change lies in memory.
-/
import Derived.Test.YtbegphfideopoaaGreatJStoreOps
namespace Go.Proofs.YtbegphfideopoaaGreat
open Go.RowKit

set_option maxRecDepth 100000 in
set_option maxHeartbeats 4000000 in
theorem right8_any (v : Value) (ops : List OpB) (w : World) (h : OpsV w v ops) :
    Calls Tryz.prog 21 #[v] w fun e w' => e = .returned (.bool (chgR ops)) ∧ w' = w := by
  obtain ⟨ao, c, rfl, hm, hat⟩ := h
  unfold maxLen at hm
  have HAT : Hid (∀ (i : Nat) o, ops[i]? = some o → ∃ b off, ao = some ⟨b, off, none⟩ ∧ b < w.heap.size ∧ OpAt w b (off + i * 3) o) := hat
  clear hat
  obtain ⟨R, hR⟩ : ∃ R, R = chgR ops := ⟨_, rfl⟩
  rw [← hR]
  have HR : Hid (R = (ops.all opR && decide (1 ≤ ops.length) && decide (ops.length ≤ 32))) := hR
  clear hR
  by_cases h1 : ops.length < 1
  · have j1 : (ops.length : Int) < 1 := by omega
    have HF : Hid (R = false) := by show _ = _; rw [HR.out, decide_eq_false (p := 1 ≤ ops.length) (by omega)]; simp
    clear HR
    go_enter Tryz.func21, Tryz.ntmps21
    go_wp2_with fail
    go_ret
    rw [HF.out]
    exact ⟨rfl, rfl⟩
  have j1 : ¬ (ops.length : Int) < 1 := by omega
  by_cases h2 : 32 < ops.length
  · have j2 : (32 : Int) < (ops.length : Int) := by omega
    have HF : Hid (R = false) := by show _ = _; rw [HR.out, decide_eq_false (p := ops.length ≤ 32) (by omega)]; simp
    clear HR
    go_enter Tryz.func21, Tryz.ntmps21
    go_wp2_with fail
    go_ret
    rw [HF.out]
    exact ⟨rfl, rfl⟩
  have j2 : ¬ (32 : Int) < (ops.length : Int) := by omega
  have HR : Hid (R = ops.all opR) := by
    show _ = _
    rw [HR.out, decide_eq_true (p := 1 ≤ ops.length) (by omega), decide_eq_true (p := ops.length ≤ 32) (by omega)]
    simp
  go_enter Tryz.func21, Tryz.ntmps21
  go_wp2_with fail
  clear j1 j2
  go_loop [3] (fun i => ∃ I : Nat, i = .int .i64 (I : Int) ∧ I ≤ ops.length ∧ (ops.take I).all opR = true) (fun i => ops.length - (intOf i).toNat)
  case atStart => exact ⟨0, rfl, Nat.zero_le _, rfl⟩
  case round =>
    obtain ⟨I, rfl, hI, hT⟩ := hrel
    have HT : Hid ((ops.take I).all opR = true) := hT
    clear hT
    by_cases hlt : I < ops.length
    case neg =>
      have i1 : ¬ (I : Int) < (ops.length : Int) := by omega
      have HF : Hid (R = true) := by
        show _ = _
        have := HT.out
        rw [List.take_of_length_le (by omega)] at this
        rw [HR.out, this]
      go_wp2_with fail
      go_ret
      rw [HF.out]
      exact ⟨rfl, rfl⟩
    have i1 : (I : Int) < (ops.length : Int) := by omega
    have hg : ops[I]? = some ops[I] := List.getElem?_eq_getElem hlt
    obtain ⟨o, ho⟩ : ∃ o, ops[I] = o := ⟨_, rfl⟩
    rw [ho] at hg
    clear ho
    obtain ⟨b, off, rfl, -, ka, kc, va, vc, y0, y1, y2, -, -, -, hvl⟩ := HAT.out I o hg
    have hix := index_ops b off ops.length c I hlt
    have HNO : Hid (opR o = false → R = false) := fun e => by
      rw [HR.out]
      rw [List.all_eq_false]
      exact ⟨o, List.mem_of_getElem? hg, by rw [e]; simp⟩
    have HYES : Hid (opR o = true → (ops.take (I + 1)).all opR = true) := fun e => by
      rw [List.take_add_one, hg, List.all_append, HT.out]
      simp [e]
    have HOR : Hid (opR o = (!(o.del && decide (0 < o.val.length)) && (decide (1 ≤ o.key.length) && decide (o.key.length ≤ 64) && decide (o.val.length ≤ 1024)))) := rfl
    clear hg
    unfold maxLen at hvl
    obtain ⟨d, hd⟩ : ∃ d, d = o.del := ⟨_, rfl⟩
    rw [← hd] at y1 HOR
    clear hd
    obtain ⟨kn, hkn⟩ : ∃ n, n = o.key.length := ⟨_, rfl⟩
    obtain ⟨vn, hvn⟩ : ∃ n, n = o.val.length := ⟨_, rfl⟩
    rw [← hkn] at y0 HOR
    rw [← hvn] at y2 HOR hvl
    clear hkn hvn
    by_cases q1 : kn < 1
    · have k1 : (kn : Int) < 1 := by omega
      have HF : Hid (R = false) := HNO.out (by rw [HOR.out, decide_eq_false (p := 1 ≤ kn) (by omega)]; simp)
      go_wp2_with fail
      go_ret
      rw [HF.out]
      exact ⟨rfl, rfl⟩
    have k1 : ¬ (kn : Int) < 1 := by omega
    by_cases q2 : 64 < kn
    · have k2 : (64 : Int) < (kn : Int) := by omega
      have HF : Hid (R = false) := HNO.out (by rw [HOR.out, decide_eq_false (p := kn ≤ 64) (by omega)]; simp)
      go_wp2_with fail
      go_ret
      rw [HF.out]
      exact ⟨rfl, rfl⟩
    have k2 : ¬ (64 : Int) < (kn : Int) := by omega
    by_cases q3 : 1024 < vn
    · have k3 : (1024 : Int) < (vn : Int) := by omega
      have HF : Hid (R = false) := HNO.out (by rw [HOR.out, decide_eq_false (p := vn ≤ 1024) (by omega)]; simp)
      go_wp2_with fail
      go_ret
      rw [HF.out]
      exact ⟨rfl, rfl⟩
    have k3 : ¬ (1024 : Int) < (vn : Int) := by omega
    cases d with
    | false =>
      have HT2 : Hid ((ops.take (I + 1)).all opR = true) := HYES.out (by rw [HOR.out, decide_eq_true (p := 1 ≤ kn) (by omega), decide_eq_true (p := kn ≤ 64) (by omega), decide_eq_true (p := vn ≤ 1024) (by omega)]; simp)
      go_wp2_with fail
      go_round
      case rel => exact ⟨I + 1, by go_num, hlt, HT2.out⟩
      case measure => simp [intOf]; omega
    | true =>
      by_cases q4 : 0 < vn
      · have k4 : (0 : Int) < (vn : Int) := by omega
        have HF : Hid (R = false) := HNO.out (by rw [HOR.out, decide_eq_true (p := 0 < vn) q4]; simp)
        go_wp2_with fail
        go_ret
        rw [HF.out]
        exact ⟨rfl, rfl⟩
      · have k4 : ¬ (0 : Int) < (vn : Int) := by omega
        have HT2 : Hid ((ops.take (I + 1)).all opR = true) := HYES.out (by rw [HOR.out, decide_eq_true (p := 1 ≤ kn) (by omega), decide_eq_true (p := kn ≤ 64) (by omega), decide_eq_true (p := vn ≤ 1024) (by omega), decide_eq_false (p := 0 < vn) q4]; simp)
        go_wp2_with fail
        go_round
        case rel => exact ⟨I + 1, by go_num, hlt, HT2.out⟩
        case measure => simp [intOf]; omega
end Go.Proofs.YtbegphfideopoaaGreat
