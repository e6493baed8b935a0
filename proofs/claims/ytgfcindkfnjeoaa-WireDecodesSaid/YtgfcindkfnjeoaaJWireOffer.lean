/-
  What is proved here: whether an Offer's manifest may be; whether a message may be, whatever it is; the statements' few of messages.
  Conditions: what comes in lies in memory.
-/
import Derived.Test.YtgfcindkfnjeoaaJWireAwk
import Derived.Test.YtgfcindkfnjeoaaJManRight
namespace Go.Proofs.Ytgfcindkfnjeoaa
open Go.RowKit

set_option maxRecDepth 100000 in
/-- manifestMay of an Offer. -/
theorem manMay_offer (x : MS) (ao : Option Addr) (cu : Nat) (bv : Value) (w : World) (hh : x.m.h.length = 32) (hu : Wds w (.slice ao x.m.u.length cu) x.m.u) (hk : x.k = 2) :
    Calls Try.prog 22 #[.agg (msA x (manL x.m (.slice ao x.m.u.length cu)) bv)] w fun e w' => e = .returned (.bool (manMay x)) ∧ Below w.heap.size w w' := by
  have hB0 := (Below.refl w.heap.size w).alloc (Nat.le_refl _) (.cells (msA x (manL x.m (.slice ao x.m.u.length cu)) bv) 28)
  have kB0 := Blk.new w 28 (msA x (manL x.m (.slice ao x.m.u.length cu)) bv)
  have c0 := kB0.cell (msA_k x (manL x.m (.slice ao x.m.u.length cu)) bv)
  have hr := msA_range x (manL x.m (.slice ao x.m.u.length cu)) bv _ _ kB0
  have hi : (Try.prog.info? 25).map (·.size) = some (manL x.m (.slice ao x.m.u.length cu)).length := by rw [manL_len _ _ hh]; exact info_manW
  have hN := mrightL_any x.m (.slice ao x.m.u.length cu) (w.alloc (.cells (msA x (manL x.m (.slice ao x.m.u.length cu)) bv) 28)) hh (hu.alloc _)
  have d5 : (x.k == 2) = true := beq_iff_eq.2 hk
  have hmm : manMay x = decide (okM x.m) := if_pos hk
  rw [hmm]
  unfold manV manC at hN
  generalize decide (okM x.m) = OK at *
  generalize manL x.m (.slice ao x.m.u.length cu) = MC at *
  have HN : Hid (Calls Try.prog 43 #[.agg MC.toArray] (w.alloc (.cells (msA x MC bv) 28)) fun e w' => e = .returned (.bool OK) ∧ Below (w.alloc (.cells (msA x MC bv) 28)).heap.size (w.alloc (.cells (msA x MC bv) 28)) w') := hN
  clear hN hk hh hu hmm kB0
  go_enter Try.func22, Try.ntmps22
  go_wp2_with (refine wpList_load_mid rfl 25 _ rfl w.heap.size 8 rfl MC _ hr Try.underlying25 rfl hi ?_)
  refine HN.out.mono ?_
  rintro e w1 ⟨rfl, hb1⟩
  have hB1 := hB0.trans (hb1.mono hB0.size)
  go_wp2
  go_ret
  exact ⟨rfl, hB1⟩
theorem manMay_any (x : MS) (ao : Option Addr) (cu : Nat) (bv : Value) (w : World) (hh : x.m.h.length = 32) (hu : Wds w (.slice ao x.m.u.length cu) x.m.u) :
    Calls Try.prog 22 #[.agg (msA x (manL x.m (.slice ao x.m.u.length cu)) bv)] w fun e w' => e = .returned (.bool (manMay x)) ∧ Below w.heap.size w w' := by
  by_cases hk : x.k = 2
  · exact manMay_offer x ao cu bv w hh hu hk
  · exact manMay_other x ao cu bv w hh hk
/-- Whether a message may be. -/
theorem right14_any (x : MS) (ao : Option Addr) (cu : Nat) (ab : Option Addr) (cb : Nat) (w : World) (hh : x.m.h.length = 32) (hu : Wds w (.slice ao x.m.u.length cu) x.m.u) :
    Calls Try.prog 10 #[.agg (msA x (manL x.m (.slice ao x.m.u.length cu)) (.slice ab x.b.length cb))] w fun e w' => e = .returned (.bool (rightM x)) ∧ Below w.heap.size w w' :=
  wright_any x (manL x.m (.slice ao x.m.u.length cu)) ab cb w (manL_len _ _ hh) (fun V hV => manMay_any x ao cu _ V hh (hu.below hV (Nat.le_refl _)))
/-- What may not be is no bytes. -/
theorem encode14_not (x : MS) (ao : Option Addr) (cu : Nat) (ab : Option Addr) (cb : Nat) (w : World) (hh : x.m.h.length = 32) (hu : Wds w (.slice ao x.m.u.length cu) x.m.u) (hS : Seg w (.slice ab x.b.length cb) x.b) (hbl : x.b.length ≤ maxLen) (hr : rightM x = false) :
    Calls Try.prog 8 #[.agg (msA x (manL x.m (.slice ao x.m.u.length cu)) (.slice ab x.b.length cb))] w fun e w' => e = .returned (.tuple #[.slice none 0 0, .int .i64 1]) ∧ Below w.heap.size w w' := by
  have H := wencode_any x (manL x.m (.slice ao x.m.u.length cu)) ab cb [] w (manL_len _ _ hh) hS hbl (fun _ h => by rw [hr] at h; cases h) (fun V hV => manMay_any x ao cu _ V hh (hu.below hV (Nat.le_refl _))) (fun _ h => by rw [hr] at h; cases h)
  have e : encW x [] = none := if_neg (by rw [hr]; exact Bool.false_ne_true)
  rw [e] at H
  exact H
/-- few. -/
theorem few14_any (x : MS) (ao : Option Addr) (cu : Nat) (ab : Option Addr) (cb : Nat) (w : World) (hh : x.m.h.length = 32) :
    Calls Try.prog 7 #[.agg (msA x (manL x.m (.slice ao x.m.u.length cu)) (.slice ab x.b.length cb))] w fun e w' => e = .returned (.bool (decide (x.b.length ≤ 5000) && decide (x.m.u.length ≤ 300))) ∧ Below w.heap.size w w' := by
  have hB0 := (Below.refl w.heap.size w).alloc (Nat.le_refl _) (.cells (msA x (manL x.m (.slice ao x.m.u.length cu)) (.slice ab x.b.length cb)) 28)
  have kB0 := Blk.new w 28 (msA x (manL x.m (.slice ao x.m.u.length cu)) (.slice ab x.b.length cb))
  have c44 := kB0.cell (msA_body x (manL x.m (.slice ao x.m.u.length cu)) (.slice ab x.b.length cb) (manL_len _ _ hh))
  have c43 := kB0.cell (j := 43) (msA_man x (manL x.m (.slice ao x.m.u.length cu)) (.slice ab x.b.length cb) 35 (.slice ao x.m.u.length cu) (by simp [manL, hh]))
  have e1 : decide ((x.b.length : Int) ≤ 5000) = decide (x.b.length ≤ 5000) := decide_eq_decide.2 (by omega)
  have e2 : decide ((x.m.u.length : Int) ≤ 300) = decide (x.m.u.length ≤ 300) := decide_eq_decide.2 (by omega)
  rw [← e1, ← e2]
  clear e1 e2 hh kB0
  generalize msA x (manL x.m (.slice ao x.m.u.length cu)) (.slice ab x.b.length cb) = MC at *
  by_cases h1 : (x.b.length : Int) ≤ 5000
  · have d1 : decide ((x.b.length : Int) ≤ 5000) = true := decide_eq_true h1
    rw [d1]
    clear h1
    go_enter Try.func7, Try.ntmps7
    go_wp2
    go_ret
    exact ⟨rfl, hB0⟩
  · have d1 : decide ((x.b.length : Int) ≤ 5000) = false := decide_eq_false h1
    rw [d1]
    clear h1
    go_enter Try.func7, Try.ntmps7
    go_wp2
    go_ret
    exact ⟨rfl, hB0⟩
end Go.Proofs.Ytgfcindkfnjeoaa
