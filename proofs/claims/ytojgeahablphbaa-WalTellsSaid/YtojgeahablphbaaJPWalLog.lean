/-
  What is proved here: the program's log as it lies in memory; what it tells of itself; reading a sector.
  Conditions: the disk and the log lie in memory.
-/
import Derived.Test.YtojgeahablphbaaJODisk
import Derived.Test.YtojgeahablphbaaJPWalRep
import Derived.Test.YtojgeahablphbaaJWalCalm
import Derived.BigQuiet
import Derived.Deep.QuietTactic
namespace Go.Proofs.Ytojgeahablphbaa
open Go.RowKit

/-- A log's cells. -/
def logC (g size n gen len : Nat) (bg bk : Bool) (tv : Value) : Array Value := #[.pointer (some ⟨g, 0, none⟩), .int .i64 (size : Int), .int .i64 (n : Int), .int .i64 (gen : Int), .int .i64 (len : Int), .bool bg, .bool bk, tv]
/-- A log's own block. -/
def LogB (w : World) (G g size n gen len : Nat) (bg bk : Bool) (tv : Value) : Prop := Blk w G 64 (logC g size n gen len bg bk tv)
def readyE (bg bk : Bool) : Int := if bk then 10 else if bg then 0 else 9
set_option maxRecDepth 100000 in
theorem ready_any {w : World} {G g size n gen len : Nat} {bg bk : Bool} {tv : Value} (h : LogB w G g size n gen len bg bk tv) :
    Calls Try.prog 32 #[.pointer (some ⟨G, 0, none⟩)] w fun e w' => e = .returned (.int .i64 (readyE bg bk)) ∧ w' = w := by
  unfold LogB logC at h
  have c5 := h.cell (j := 5) rfl
  have c6 := h.cell (j := 6) rfl
  cases bk with
  | true =>
    go_enter Try.func32, Try.ntmps32
    go_wp2
    go_ret
    exact ⟨rfl, rfl⟩
  | false =>
    cases bg with
    | true =>
      go_enter Try.func32, Try.ntmps32
      go_wp2
      go_ret
      exact ⟨rfl, rfl⟩
    | false =>
      go_enter Try.func32, Try.ntmps32
      go_wp2
      go_ret
      exact ⟨rfl, rfl⟩
set_option maxRecDepth 100000 in
theorem full_any {w : World} {G g size n gen len : Nat} {bg bk : Bool} {tv : Value} (h : LogB w G g size n gen len bg bk tv) (hl : len ≤ 1000000) :
    Calls Try.prog 50 #[.pointer (some ⟨G, 0, none⟩)] w fun e w' => e = .returned (.int .i64 ((len / 128 : Nat) : Int)) ∧ w' = w := by
  unfold LogB logC at h
  have c4 := h.cell (j := 4) rfl
  have HE : Hid (((len / 128 : Nat) : Int) = (len : Int) / 128) := by show _ = _; omega
  go_enter Try.func50, Try.ntmps50
  go_wp2
  go_ret
  rw [HE.out]
  exact ⟨rfl, rfl⟩
set_option maxRecDepth 100000 in
theorem filled_any {w : World} {G g size n gen len : Nat} {bg bk : Bool} {ao : Option Addr} {tl c : Nat} (h : LogB w G g size n gen len bg bk (.slice ao tl c)) (hl : len ≤ 1000000) (ht : tl ≤ 1000000) :
    Calls Try.prog 33 #[.pointer (some ⟨G, 0, none⟩)] w fun e w' => e = .returned (.int .i64 ((len / 128 * 128 + tl : Nat) : Int)) ∧ ∃ k, w' = w.drewN k := by
  have KH : ∀ j, Calls Try.prog 50 #[.pointer (some ⟨G, 0, none⟩)] (w.drewN j) fun e w' => e = .returned (.int .i64 ((len / 128 : Nat) : Int)) ∧ w' = w.drewN j := fun j => full_any (Blk.drewN h j) hl
  unfold LogB logC at h
  have c7 := h.cell (j := 7) rfl
  obtain ⟨Q, hQ⟩ : ∃ Q, Q = len / 128 := ⟨_, rfl⟩
  rw [← hQ] at KH
  rw [← hQ]
  have hq : Q ≤ 1000000 := by omega
  have HE : Hid (((Q * 128 + tl : Nat) : Int) = (Q : Int) * 128 + (tl : Int)) := by show _ = _; omega
  clear hQ
  go_enter Try.func33, Try.ntmps33
  go_wp2_with fail
  go_quiet (first | (go_at_call 50; refine Calls.quiet_of_same (KH _)))
  clear KH
  go_wp2
  go_ret
  rw [HE.out]
  exact ⟨rfl, _, rfl⟩
set_option maxRecDepth 100000 in
theorem room_any {w : World} {G g size n gen len : Nat} {bg bk : Bool} {ao : Option Addr} {tl c : Nat} (h : LogB w G g size n gen len bg bk (.slice ao tl c)) (hl : len ≤ 1000000) (ht : tl ≤ 1000000) (hs : size ≤ 1000000) :
    Calls Try.prog 14 #[.pointer (some ⟨G, 0, none⟩)] w fun e w' => e = .returned (.int .i64 (if readyE bg bk ≠ 0 then 0 else (size : Int) - ((len / 128 * 128 + tl : Nat) : Int))) ∧ ∃ k, w' = w.drewN k := by
  have HR : Hid (Calls Try.prog 32 #[.pointer (some ⟨G, 0, none⟩)] w fun e w' => e = .returned (.int .i64 (readyE bg bk)) ∧ w' = w) := ready_any h
  have KH : ∀ j, Calls Try.prog 33 #[.pointer (some ⟨G, 0, none⟩)] (w.drewN j) fun e w' => e = .returned (.int .i64 ((len / 128 * 128 + tl : Nat) : Int)) ∧ ∃ k, w' = (w.drewN j).drewN k := fun j => filled_any (Blk.drewN h j) hl ht
  unfold LogB logC at h
  have c1 := h.cell (j := 1) rfl
  obtain ⟨R, hR⟩ : ∃ R, R = readyE bg bk := ⟨_, rfl⟩
  rw [← hR] at HR
  rw [← hR]
  clear hR
  have hF : len / 128 * 128 + tl ≤ 2000000 := by omega
  generalize len / 128 * 128 + tl = F at *
  by_cases h0 : R = 0
  · have HE : Hid ((if R ≠ 0 then 0 else (size : Int) - (F : Int)) = (size : Int) - (F : Int)) := by show _ = _; rw [if_neg (fun h => h h0)]
    rw [HE.out]
    subst h0
    clear HE
    go_enter Try.func14, Try.ntmps14
    go_wp2_with (go_at_call 32; refine HR.out.mono ?_; rintro e w1 ⟨rfl, rfl⟩)
    clear HR
    go_quiet (first | (go_at_call 33; refine Calls.quiet_of (KH _)))
    clear KH
    go_wp2
    go_ret
    exact ⟨rfl, _, rfl⟩
  · have HE : Hid ((if R ≠ 0 then 0 else (size : Int) - (F : Int)) = 0) := by show _ = _; rw [if_pos h0]
    rw [HE.out]
    have j0 : (R != 0) = true := by simp [h0]
    clear HE h0
    go_enter Try.func14, Try.ntmps14
    go_wp2_with (go_at_call 32; refine HR.out.mono ?_; rintro e w1 ⟨rfl, rfl⟩)
    go_ret
    exact ⟨rfl, 0, rfl⟩


set_option maxRecDepth 100000 in
theorem sector_any {w : World} {G g size n gen len : Nat} {bg bk : Bool} {tv : Value} (h : LogB w G g size n gen len bg bk tv) (hs : size ≤ 1000000) (k i : Nat) (hi : i ≤ 1000000) :
    Calls Try.prog 43 #[.pointer (some ⟨G, 0, none⟩), .int .i64 (k : Int), .int .i64 (i : Int)] w fun e w' => e = .returned (.int .i64 ((2 + k % 2 * (size / 128) + i : Nat) : Int)) ∧ w' = w := by
  unfold LogB logC at h
  have c1 := h.cell (j := 1) rfl
  obtain ⟨K, hK⟩ : ∃ K, K = k % 2 := ⟨_, rfl⟩
  obtain ⟨H, hH⟩ : ∃ H, H = size / 128 := ⟨_, rfl⟩
  have e1 : (k : Int) % 2 = (K : Int) := by omega
  have e2 : (size : Int) / 128 = (H : Int) := by omega
  obtain ⟨P, hP⟩ : ∃ P, P = K * H := ⟨_, rfl⟩
  have hPl : P ≤ 1000000 := by
    rcases (show K = 0 ∨ K = 1 by omega) with rfl | rfl
    · omega
    · omega
  have e3 : (K : Int) * (H : Int) = (P : Int) := by rw [hP]; simp
  rw [← hK, ← hH, ← hP]
  have HE : Hid (((2 + P + i : Nat) : Int) = 2 + (P : Int) + (i : Int)) := by show _ = _; omega
  clear hK hH hP
  go_enter Try.func43, Try.ntmps43
  go_wp2
  go_ret
  rw [HE.out]
  exact ⟨rfl, rfl⟩
set_option maxRecDepth 100000 in
theorem readSec_any {w : World} {G size n gen len : Nat} {bg bk : Bool} {tv : Value} {L : PLay} {C : Nat → Prop} {s : DS} (h : LogB w G L.g size n gen len bg bk tv) (hD : OD w L C s) (k : Int) :
    Calls Try.prog 51 #[.pointer (some ⟨G, 0, none⟩), .int .i64 k] w fun e w' => ∃ v, e = .returned v ∧ Own w' w.heap.size v (readS s k).1 ∧ Below w.heap.size w w' := by
  have HR : Hid (Calls Try.prog 57 #[.pointer (some ⟨L.g, 0, none⟩), .int .i64 k] w fun e w' => ∃ v, e = .returned (.tuple #[v, .int .i64 (readS s k).2]) ∧ Own w' w.heap.size v (readS s k).1 ∧ Below w.heap.size w w') := od_read L C s k w hD
  unfold LogB logC at h
  have c0 := h.cell (j := 0) rfl
  generalize readS s k = R at *
  go_enter Try.func51, Try.ntmps51
  go_wp2_with (go_at_call 57; refine HR.out.mono ?_; rintro e w1 ⟨v, rfl, ho, hb⟩)
  go_ret
  exact ⟨_, rfl, ho, hb⟩
end Go.Proofs.Ytojgeahablphbaa
