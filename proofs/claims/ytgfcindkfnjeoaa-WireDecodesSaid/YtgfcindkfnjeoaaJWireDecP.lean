/-
  What is proved here: plain facts on messages that are decoded: which message numbers and bytes make, and that its bytes are those that stood there.
  Conditions: those that each fact names.
-/
import Derived.Test.YtgfcindkfnjeoaaJWireInj
import Derived.Test.YtgfcindkfnjeoaaJManDecP
namespace Go.Proofs.Ytgfcindkfnjeoaa
open Go.RowKit

def setAt (x : MS) : Nat → Int → MS
  | 1, z => { x with d := z }
  | 2, z => { x with c := z }
  | 3, z => { x with l := z }
  | 4, z => { x with v := z }
  | 5, z => { x with s := z }
  | 6, z => { x with h := z }
  | 7, z => { x with o := z }
  | _, _ => x
def setL : List (Nat × Nat × Nat) → List Nat → MS → MS
  | n :: r, a :: xs, y => setL r xs (setAt y n.1 (a : Int))
  | _, _, y => y
/-- A message of a kind with nothing in it. -/
def kMs (k : Int) : MS := ⟨k, 0, 0, 0, 0, 0, 0, 0, zeroM, []⟩
theorem msA_set (x : MS) (mc : List Value) (bv : Value) (z : Int) : ∀ j, 1 ≤ j → j ≤ 7 → (msA x mc bv).setIfInBounds j (.int .i64 z) = msA (setAt x j z) mc bv
  | 1, _, _ => by simp [msA, msL, setAt]
  | 2, _, _ => by simp [msA, msL, setAt]
  | 3, _, _ => by simp [msA, msL, setAt]
  | 4, _, _ => by simp [msA, msL, setAt]
  | 5, _, _ => by simp [msA, msL, setAt]
  | 6, _, _ => by simp [msA, msL, setAt]
  | 7, _, _ => by simp [msA, msL, setAt]
theorem setAt_rest (x : MS) (j : Nat) (z : Int) : (setAt x j z).k = x.k ∧ (setAt x j z).m = x.m ∧ (setAt x j z).b = x.b := by
  unfold setAt
  split <;> exact ⟨rfl, rfl, rfl⟩
theorem setL_rest : ∀ (l : List (Nat × Nat × Nat)) (xs : List Nat) (y : MS), (setL l xs y).k = y.k ∧ (setL l xs y).m = y.m ∧ (setL l xs y).b = y.b
  | [], _, _ => ⟨rfl, rfl, rfl⟩
  | _ :: _, [], _ => ⟨rfl, rfl, rfl⟩
  | n :: r, a :: xs, y => by
    show (setL r xs (setAt y n.1 (a : Int))).k = _ ∧ _
    obtain ⟨h1, h2, h3⟩ := setL_rest r xs (setAt y n.1 (a : Int))
    obtain ⟨g1, g2, g3⟩ := setAt_rest y n.1 (a : Int)
    exact ⟨h1.trans g1, h2.trans g2, h3.trans g3⟩
/-- The message that numbers, a manifest and bytes make. -/
def outMs (k : Int) (xs : List Nat) (m : MM) (b : List UInt8) : MS := { setL (numK k) xs (kMs k) with m := m, b := b }
theorem outMs_k (k : Int) (xs : List Nat) (m : MM) (b : List UInt8) : (outMs k xs m b).k = k := (setL_rest (numK k) xs (kMs k)).1
set_option maxHeartbeats 1000000 in
theorem outMs_nums (k : Int) (xs : List Nat) (m : MM) (b : List UInt8) (h : inNs (nsK k) xs) : numsMay (outMs k xs m b) = true ∧ xsK (outMs k xs m b) = xs := by
  unfold numsMay xsK
  rw [outMs_k]
  rcases kinds k with rfl | rfl | rfl | rfl | rfl | rfl | rfl | rfl | hk
  · obtain ⟨a0, a1, rfl⟩ : ∃ a0 a1, xs = [a0, a1] := by
      rcases xs with _ | ⟨a0, _ | ⟨a1, _ | ⟨a2, xs⟩⟩⟩ <;> first | exact ⟨_, _, rfl⟩ | (simp [nsK, numK, inNs] at h)
    simp [nsK, numK, inNs] at h
    simp [outMs, kMs, numK, setL, setAt, mayL, getM, zeroAt]
    omega
  · obtain ⟨a0, a1, rfl⟩ : ∃ a0 a1, xs = [a0, a1] := by
      rcases xs with _ | ⟨a0, _ | ⟨a1, _ | ⟨a2, xs⟩⟩⟩ <;> first | exact ⟨_, _, rfl⟩ | (simp [nsK, numK, inNs] at h)
    simp [nsK, numK, inNs] at h
    simp [outMs, kMs, numK, setL, setAt, mayL, getM, zeroAt]
    omega
  · obtain rfl : xs = [] := by
      rcases xs with _ | ⟨a0, xs⟩ <;> first | rfl | (simp [nsK, numK, inNs] at h)
    exact ⟨rfl, rfl⟩
  · obtain ⟨a0, a1, a2, rfl⟩ : ∃ a0 a1 a2, xs = [a0, a1, a2] := by
      rcases xs with _ | ⟨a0, _ | ⟨a1, _ | ⟨a2, _ | ⟨a3, xs⟩⟩⟩⟩ <;> first | exact ⟨_, _, _, rfl⟩ | (simp [nsK, numK, inNs] at h)
    simp [nsK, numK, inNs] at h
    simp [outMs, kMs, numK, setL, setAt, mayL, getM, zeroAt]
    omega
  · obtain ⟨a0, a1, a2, rfl⟩ : ∃ a0 a1 a2, xs = [a0, a1, a2] := by
      rcases xs with _ | ⟨a0, _ | ⟨a1, _ | ⟨a2, _ | ⟨a3, xs⟩⟩⟩⟩ <;> first | exact ⟨_, _, _, rfl⟩ | (simp [nsK, numK, inNs] at h)
    simp [nsK, numK, inNs] at h
    simp [outMs, kMs, numK, setL, setAt, mayL, getM, zeroAt]
    omega
  · obtain ⟨a0, a1, a2, a3, a4, a5, rfl⟩ : ∃ a0 a1 a2 a3 a4 a5, xs = [a0, a1, a2, a3, a4, a5] := by
      rcases xs with _ | ⟨a0, _ | ⟨a1, _ | ⟨a2, _ | ⟨a3, _ | ⟨a4, _ | ⟨a5, _ | ⟨a6, xs⟩⟩⟩⟩⟩⟩⟩ <;> first | exact ⟨_, _, _, _, _, _, rfl⟩ | (simp [nsK, numK, inNs] at h)
    simp [nsK, numK, inNs] at h
    simp [outMs, kMs, numK, setL, setAt, mayL, getM, zeroAt]
    omega
  · obtain ⟨a0, rfl⟩ : ∃ a0, xs = [a0] := by
      rcases xs with _ | ⟨a0, _ | ⟨a1, xs⟩⟩ <;> first | exact ⟨_, rfl⟩ | (simp [nsK, numK, inNs] at h)
    simp [nsK, numK, inNs] at h
    simp [outMs, kMs, numK, setL, setAt, mayL, getM, zeroAt]
    omega
  · obtain ⟨a0, a1, rfl⟩ : ∃ a0 a1, xs = [a0, a1] := by
      rcases xs with _ | ⟨a0, _ | ⟨a1, _ | ⟨a2, xs⟩⟩⟩ <;> first | exact ⟨_, _, rfl⟩ | (simp [nsK, numK, inNs] at h)
    simp [nsK, numK, inNs] at h
    simp [outMs, kMs, numK, setL, setAt, mayL, getM, zeroAt]
    omega
  · rw [show nsK k = [] by unfold nsK; rw [numK_none hk]; rfl] at h
    obtain rfl : xs = [] := by
      rcases xs with _ | ⟨a0, xs⟩ <;> first | rfl | exact h.elim
    unfold outMs
    rw [numK_none hk]
    exact ⟨rfl, rfl⟩
/-- What stands behind the kind, for a manifest and bytes. -/
def tailOk (k : Int) (m : MM) (b : List UInt8) : Prop := (k = 2 → okM m ∧ b = []) ∧ (k = 5 → m = zeroM ∧ b.length ≤ 1024) ∧ (k ≠ 2 → k ≠ 5 → m = zeroM ∧ b = [])
theorem outMs_right {k : Int} {xs : List Nat} {m : MM} {b : List UInt8} (h1 : 1 ≤ k) (h8 : k ≤ 8) (h : inNs (nsK k) xs) (ht : tailOk k m b) : rightM (outMs k xs m b) = true := by
  unfold rightM
  rw [(outMs_nums k xs m b h).1]
  unfold manMay bodyMay
  rw [outMs_k, decide_eq_true h1, decide_eq_true h8]
  show ((true && true) && (true && ((if k = 2 then decide (okM m) else noneM m) && (if k = 5 then decide (b.length ≤ 1024) else decide (b.length = 0))))) = true
  obtain ⟨t2, t5, t0⟩ := ht
  by_cases e2 : k = 2
  · obtain ⟨q1, rfl⟩ := t2 e2
    rw [if_pos e2, if_neg (by omega), decide_eq_true q1]
    rfl
  · by_cases e5 : k = 5
    · obtain ⟨rfl, q1⟩ := t5 e5
      rw [if_neg e2, if_pos e5, decide_eq_true q1]
      rfl
    · obtain ⟨rfl, rfl⟩ := t0 e2 e5
      rw [if_neg e2, if_neg e5]
      rfl
theorem kind_of (c : UInt8) : UInt8.ofNat ((c.toNat : Int)).toNat = c := by simp
/-- The bytes of what was made. -/
theorem outMs_bytes {c : UInt8} {xs : List Nat} {m : MM} {b : List UInt8} {bo : Option (List UInt8)} {r : List UInt8} (h1 : 1 ≤ (c.toNat : Int)) (h8 : (c.toNat : Int) ≤ 8) (h3 : (c.toNat : Int) ≠ 3) (h : inNs (nsK (c.toNat : Int)) xs) (ht : tailOk (c.toNat : Int) m b) (hbo : boK (outMs (c.toNat : Int) xs m b) ((encM m).getD []) = bo) (he : encTop (recF (nsK (c.toNat : Int)) (mbK (c.toNat : Int))) (recV xs bo) = some r) : bytesM (outMs (c.toNat : Int) xs m b) = some (c :: r) := by
  unfold bytesM encW
  rw [if_pos (outMs_right h1 h8 h ht), outMs_k, if_neg h3, kind_of]
  unfold recW
  show some (c :: (encTop (recF (nsK (outMs (c.toNat : Int) xs m b).k) (mbK (outMs (c.toNat : Int) xs m b).k)) (recV (xsK (outMs (c.toNat : Int) xs m b)) (boK (outMs (c.toNat : Int) xs m b) ((encM m).getD [])))).getD []) = _
  rw [outMs_k, (outMs_nums (c.toNat : Int) xs m b h).2, hbo, he]
  rfl
theorem idle_bytes : bytesM (kMs 3) = some [3] := by
  have hr : rightM (kMs 3) = true := by decide
  unfold bytesM encW
  rw [if_pos hr]
  rfl
/-- What bytes that are a message's tell. -/
theorem bytes_toldM {y : MS} {c : UInt8} {r : List UInt8} (hh : y.m.h.length = 32) (h : bytesM y = some (c :: r)) : y.k = (c.toNat : Int) ∧ (y.k = 3 → r = []) ∧ (y.k ≠ 3 → decTop (recF (nsK y.k) (mbK y.k)) r = .ok (recV (xsK y) (boK y ((encM y.m).getD [])))) := by
  have hr := bytesM_right h
  obtain ⟨⟨h1, h8⟩, hn, hm, hb⟩ := right_parts hr
  have h2 : y.k = 2 → ((encM y.m).getD []).length ≤ 500 := fun e => encM_len (encM_of hr hh e)
  unfold bytesM encW at h
  rw [if_pos hr] at h
  injection h with h
  injection h with hc hrr
  refine ⟨?_, fun e => ?_, fun e => ?_⟩
  · rw [← hc]
    have : (UInt8.ofNat y.k.toNat).toNat = y.k.toNat := by rw [UInt8.toNat_ofNat']; omega
    rw [this]
    omega
  · rw [← hrr, if_pos e]
  · obtain ⟨p, hp, _⟩ := recW_some hr e h2
    rw [if_neg e, hp] at hrr
    rw [← hrr]
    exact (rec_okK h1 h8 e).back hp
theorem no_rec {k : Int} (h : ¬ (1 ≤ k ∧ k ≤ 8) ∨ k = 3) (r : List UInt8) : decTop (recF (nsK k) (mbK k)) r = .error 1 := by
  have e1 : numK k = [] := by
    rcases h with h | h
    · exact numK_none (by omega)
    · subst h; rfl
  have e2 : mbK k = none := by
    unfold mbK
    rw [if_neg (by omega), if_neg (by omega)]
  unfold nsK
  rw [e1, e2]
  rfl
/-- Where the record is none, the bytes are no message's. -/
theorem not_rec {c : UInt8} {r : List UInt8} {n : Int} (h3 : ¬ ((c.toNat : Int) = 3 ∧ r = [])) (he : decTop (recF (nsK (c.toNat : Int)) (mbK (c.toNat : Int))) r = .error n) : ∀ y : MS, y.m.h.length = 32 → bytesM y ≠ some (c :: r) := fun y hh hy => by
  obtain ⟨q1, q2, q3⟩ := bytes_toldM hh hy
  by_cases e : y.k = 3
  · exact h3 ⟨by rw [← q1]; exact e, q2 e⟩
  · have := q3 e
    rw [q1, he] at this
    cases this
theorem rec_code {k : Int} {r : List UInt8} {n : Int} (he : decTop (recF (nsK k) (mbK k)) r = .error n) : n = 1 ∨ n = 2 := by
  unfold decTop at he
  split at he
  · split at he
    · cases he
    · cases he; exact .inr rfl
  · cases he; exact .inl rfl
theorem rec_kind {k : Int} {r : List UInt8} {v : List Val} (he : decTop (recF (nsK k) (mbK k)) r = .ok v) : (1 ≤ k ∧ k ≤ 8) ∧ k ≠ 3 := by
  by_cases h : ¬ (1 ≤ k ∧ k ≤ 8) ∨ k = 3
  · rw [no_rec h r] at he; cases he
  · omega
/-- Where the manifest is none, the bytes are no message's. -/
theorem not_man {c : UInt8} {r nb : List UInt8} {xs : List Nat} (h2 : (c.toNat : Int) = 2) (hx : inNs (nsK (c.toNat : Int)) xs) (he : decTop (recF (nsK (c.toNat : Int)) (mbK (c.toNat : Int))) r = .ok (recV xs (some nb))) (hm : ∀ m : MM, okM m → encTop manF (manVs m) ≠ some nb) : ∀ y : MS, y.m.h.length = 32 → bytesM y ≠ some (c :: r) := fun y hh hy => by
  obtain ⟨q1, q2, q3⟩ := bytes_toldM hh hy
  have hr := bytesM_right hy
  have hk2 : y.k = 2 := q1.trans h2
  have := q3 (by omega)
  rw [q1, he] at this
  injection this with this
  have hl : xs.length = (xsK y).length := by
    rw [inNs_len hx]
    unfold nsK xsK
    rw [List.length_map, List.length_map, q1]
  obtain ⟨_, hb⟩ := recV_inj hl this
  unfold boK at hb
  rw [if_pos hk2] at hb
  injection hb with hb
  have hok : okM y.m := by
    obtain ⟨-, -, h5, -⟩ := right_parts hr
    unfold manMay at h5
    rw [if_pos hk2] at h5
    exact of_decide_eq_true h5
  obtain ⟨p, hp, hq⟩ := man_some hok hh
  rw [hp] at hb
  exact hm y.m hok (by rw [hq, hb]; rfl)
end Go.Proofs.Ytgfcindkfnjeoaa
