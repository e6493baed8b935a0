/-
  What is proved here: of all numbers, the statement DiskNews answers true: of how many sectors there is a disk.
  Conditions: none.
-/
import Derived.Test.YtjhiopfhndbfkaaPDiskAwake
import Derived.Test.YtjhiopfhndbfkaaRefDiskNew
namespace Go.Proofs.Ytjhiopfhndbfkaa
open Go.RowKit Go.Maps

set_option maxRecDepth 100000 in
set_option maxHeartbeats 4000000 in
theorem diskNews_any (n : Int) (w : World) (_hn : n ≤ 9223372036854775807) :
    Calls Try.prog 3 #[.int .i64 n] w fun e w' => e = .returned (.bool true) ∧ Below w.heap.size w w' := by
  go_enter Try.func3, Try.ntmps3
  go_wp2_with fail
  refine (awake5_any _).mono ?_
  rintro e w1 ⟨rfl, hb1⟩
  go_wp2_with fail
  by_cases hbad : n < 1 ∨ 4096 < n
  · refine (new_bad n w1 hbad).mono ?_
    rintro e w2 ⟨rfl, rfl⟩
    go_wp2_with fail
    refine (refNew_bad n w2 hbad).mono ?_
    rintro e w3 ⟨rfl, rfl⟩
    go_wp2
    go_ret
    exact ⟨rfl, hb1⟩
  · obtain ⟨m, rfl⟩ : ∃ m : Nat, n = (m : Int) := ⟨n.toNat, by omega⟩
    refine (new_any m w1 (by omega) (by omega)).mono ?_
    rintro e w2 ⟨L, rfl, hLn, hD2, hb2, hT2, -⟩
    go_wp2_with fail
    refine (refNew_any m w2 (by omega) (by omega)).mono ?_
    rintro e w3 ⟨M, rfl, -, -, hb3, -⟩
    have hD3 := hD2.after hb3
    obtain ⟨xv, hx, -⟩ := hD3.head
    unfold PLay.head at hx
    have c0 := hx.cell (j := 0) rfl
    rw [hLn] at c0
    clear hbad hLn
    go_wp2
    go_ret
    exact ⟨rfl, (hb1.trans (hb2.mono hb1.size)).trans (hb3.mono (Nat.le_trans hb1.size hb2.size))⟩
end Go.Proofs.Ytjhiopfhndbfkaa
