/-
  What is proved here: the document's Same of layer 14 tells whether two messages are the same.
  Conditions: those that the fact names.
-/
import Derived.Test.YtgfcindkfnjeoaaJRefManSameG
import Derived.Test.YtgfcindkfnjeoaaJWireOffer
namespace Go.Proofs.Ytgfcindkfnjeoaa
open Go.RowKit

/-- Whether two messages are the same. -/
def sameMs (x y : MS) : Bool := (x.k == y.k) && ((x.d == y.d) && ((x.c == y.c) && ((x.l == y.l) && ((x.v == y.v) && ((x.s == y.s) && ((x.h == y.h) && ((x.o == y.o) && (decide (x.b = y.b) && sameMM x.m y.m))))))))
set_option maxRecDepth 100000 in
set_option maxHeartbeats 4000000 in
theorem rsame14_any (x y : MS) (ao ao' ab ab' : Option Addr) (cu cu' cb cb' : Nat) (w : World) (hh : x.m.h.length = 32) (hh' : y.m.h.length = 32) (hm : x.m.u.length ≤ maxLen) (hu : Wds w (.slice ao x.m.u.length cu) x.m.u) (hu' : Wds w (.slice ao' y.m.u.length cu') y.m.u) (hS : Seg w (.slice ab x.b.length cb) x.b) (hS' : Seg w (.slice ab' y.b.length cb') y.b) :
    Calls Try.prog 14 #[.agg (msA x (manL x.m (.slice ao x.m.u.length cu)) (.slice ab x.b.length cb)), .agg (msA y (manL y.m (.slice ao' y.m.u.length cu')) (.slice ab' y.b.length cb'))] w fun e w' => e = .returned (.bool (sameMs x y)) ∧ Below w.heap.size w w' := by
  have hB : Below w.heap.size w ((w.alloc (.cells (msA x (manL x.m (.slice ao x.m.u.length cu)) (.slice ab x.b.length cb)) 28)).alloc (.cells (msA y (manL y.m (.slice ao' y.m.u.length cu')) (.slice ab' y.b.length cb')) 28)) := ((Below.refl _ _).alloc (Nat.le_refl _) _).alloc (by simp) _
  have k2 := (Blk.new w 28 (msA x (manL x.m (.slice ao x.m.u.length cu)) (.slice ab x.b.length cb))).alloc (.cells (msA y (manL y.m (.slice ao' y.m.u.length cu')) (.slice ab' y.b.length cb')) 28)
  have k3 : Blk ((w.alloc (.cells (msA x (manL x.m (.slice ao x.m.u.length cu)) (.slice ab x.b.length cb)) 28)).alloc (.cells (msA y (manL y.m (.slice ao' y.m.u.length cu')) (.slice ab' y.b.length cb')) 28)) (w.heap.size + 1) 28 (msA y (manL y.m (.slice ao' y.m.u.length cu')) (.slice ab' y.b.length cb')) := Blk.newAt _ _ _ _ (by simp)
  have HS : Hid (∀ V, Below w.heap.size w V → Calls Try.prog 29 #[.agg (manL x.m (.slice ao x.m.u.length cu)).toArray, .agg (manL y.m (.slice ao' y.m.u.length cu')).toArray] V fun e w' => e = .returned (.bool (sameMM x.m y.m)) ∧ Below V.heap.size V w') := fun V hV => rsameG_any x.m y.m _ _ V hh hh' hm (hu.below hV (Nat.le_refl _)) (hu'.below hV (Nat.le_refl _))
  have ra : ((w.alloc (.cells (msA x (manL x.m (.slice ao x.m.u.length cu)) (.slice ab x.b.length cb)) 28)).alloc (.cells (msA y (manL y.m (.slice ao' y.m.u.length cu')) (.slice ab' y.b.length cb')) 28)).rangeAt w.heap.size 8 (manL x.m (.slice ao x.m.u.length cu)) := fun j v hv => k2.cell (msA_man _ _ _ j v hv)
  have rb : ((w.alloc (.cells (msA x (manL x.m (.slice ao x.m.u.length cu)) (.slice ab x.b.length cb)) 28)).alloc (.cells (msA y (manL y.m (.slice ao' y.m.u.length cu')) (.slice ab' y.b.length cb')) 28)).rangeAt (w.heap.size + 1) 8 (manL y.m (.slice ao' y.m.u.length cu')) := fun j v hv => k3.cell (msA_man _ _ _ j v hv)
  have hl1 := manL_len x.m (.slice ao x.m.u.length cu) hh
  have hl2 := manL_len y.m (.slice ao' y.m.u.length cu') hh'
  have hi1 : (Try.prog.info? 25).map (·.size) = some (manL x.m (.slice ao x.m.u.length cu)).length := by rw [hl1]; kernel_rfl
  have hi2 : (Try.prog.info? 25).map (·.size) = some (manL y.m (.slice ao' y.m.u.length cu')).length := by rw [hl2]; kernel_rfl
  have HQ : Hid (sameMs x y = ((x.k == y.k) && ((x.d == y.d) && ((x.c == y.c) && ((x.l == y.l) && ((x.v == y.v) && ((x.s == y.s) && ((x.h == y.h) && ((x.o == y.o) && (decide (x.b = y.b) && sameMM x.m y.m)))))))))) := rfl
  rw [HQ.out]
  clear HQ hh hh' hm hu hu'
  generalize manL x.m (.slice ao x.m.u.length cu) = MX at *
  generalize manL y.m (.slice ao' y.m.u.length cu') = MY at *
  generalize sameMM x.m y.m = SM at *
  have c44 := msA_body x MX (.slice ab x.b.length cb) hl1
  have d44 := msA_body y MY (.slice ab' y.b.length cb') hl2
  have HGX : Hid (∀ V, Below (w.heap.size + 2) ((w.alloc (.cells (msA x MX (.slice ab x.b.length cb)) 28)).alloc (.cells (msA y MY (.slice ab' y.b.length cb')) 28)) V → Blk V w.heap.size 28 (msA x MX (.slice ab x.b.length cb)) ∧ Blk V (w.heap.size + 1) 28 (msA y MY (.slice ab' y.b.length cb'))) := fun V hV => ⟨k2.below hV (by omega), k3.below hV (by omega)⟩
  have hsz : ((w.alloc (.cells (msA x MX (.slice ab x.b.length cb)) 28)).alloc (.cells (msA y MY (.slice ab' y.b.length cb')) 28)).heap.size = w.heap.size + 2 := by simp
  clear k2 k3
  have HC44 : Hid ((msA x MX (.slice ab x.b.length cb))[44]? = some (.slice ab x.b.length cb) ∧ (msA y MY (.slice ab' y.b.length cb'))[44]? = some (.slice ab' y.b.length cb')) := ⟨c44, d44⟩
  have HG1 : Hid (∀ j, 1 ≤ j → j ≤ 7 → (msA x MX (.slice ab x.b.length cb))[j]? = some (.int .i64 (getM x j)) ∧ (msA y MY (.slice ab' y.b.length cb'))[j]? = some (.int .i64 (getM y j))) := fun j h1 h2 => ⟨msA_get x MX _ j h1 h2, msA_get y MY _ j h1 h2⟩
  have HG0 : Hid ((msA x MX (.slice ab x.b.length cb))[0]? = some (.int .i64 x.k) ∧ (msA y MY (.slice ab' y.b.length cb'))[0]? = some (.int .i64 y.k)) := ⟨rfl, rfl⟩
  clear c44 d44 hl1 hl2
  generalize msA x MX (.slice ab x.b.length cb) = XA at *
  generalize msA y MY (.slice ab' y.b.length cb') = YA at *
  go_enter Try.func14, Try.ntmps14
  generalize hW0 : (w.alloc (.cells XA 28)).alloc (.cells YA 28) = W0 at *
  go_wp2_with (first | (refine wpList_load_mid rfl 25 _ rfl w.heap.size 8 rfl MX _ (by first | exact ra | (rw [hW0]; exact ra)) Try.underlying25 rfl hi1 ?_) | (refine wpList_load_mid rfl 25 _ rfl (w.heap.size + 1) 8 rfl MY _ (by first | exact rb | (rw [hW0]; exact rb)) Try.underlying25 rfl hi2 ?_))

  refine (HS.out W0 hB).mono ?_
  rintro e W1 ⟨rfl, hb1⟩
  have hB1 : Below w.heap.size w W1 := hB.trans (hb1.mono hB.size)
  obtain ⟨kx, ky⟩ := HGX.out W1 (by rw [← hsz]; exact hb1)
  clear hB hb1 HS ra rb hi1 hi2 HGX hW0 hsz
  have a0 : W1.cell? ⟨w.heap.size, 0, none⟩ = some (.int .i64 x.k) := kx.cell HG0.out.1
  have b0 : W1.cell? ⟨w.heap.size + 1, 0, none⟩ = some (.int .i64 y.k) := ky.cell HG0.out.2
  have a1 : W1.cell? ⟨w.heap.size, 1, none⟩ = some (.int .i64 x.d) := kx.cell (HG1.out 1 (by decide) (by decide)).1
  have b1 : W1.cell? ⟨w.heap.size + 1, 1, none⟩ = some (.int .i64 y.d) := ky.cell (HG1.out 1 (by decide) (by decide)).2
  have a2 : W1.cell? ⟨w.heap.size, 2, none⟩ = some (.int .i64 x.c) := kx.cell (HG1.out 2 (by decide) (by decide)).1
  have b2 : W1.cell? ⟨w.heap.size + 1, 2, none⟩ = some (.int .i64 y.c) := ky.cell (HG1.out 2 (by decide) (by decide)).2
  have a3 : W1.cell? ⟨w.heap.size, 3, none⟩ = some (.int .i64 x.l) := kx.cell (HG1.out 3 (by decide) (by decide)).1
  have b3 : W1.cell? ⟨w.heap.size + 1, 3, none⟩ = some (.int .i64 y.l) := ky.cell (HG1.out 3 (by decide) (by decide)).2
  have a4 : W1.cell? ⟨w.heap.size, 4, none⟩ = some (.int .i64 x.v) := kx.cell (HG1.out 4 (by decide) (by decide)).1
  have b4 : W1.cell? ⟨w.heap.size + 1, 4, none⟩ = some (.int .i64 y.v) := ky.cell (HG1.out 4 (by decide) (by decide)).2
  have a5 : W1.cell? ⟨w.heap.size, 5, none⟩ = some (.int .i64 x.s) := kx.cell (HG1.out 5 (by decide) (by decide)).1
  have b5 : W1.cell? ⟨w.heap.size + 1, 5, none⟩ = some (.int .i64 y.s) := ky.cell (HG1.out 5 (by decide) (by decide)).2
  have a6 : W1.cell? ⟨w.heap.size, 6, none⟩ = some (.int .i64 x.h) := kx.cell (HG1.out 6 (by decide) (by decide)).1
  have b6 : W1.cell? ⟨w.heap.size + 1, 6, none⟩ = some (.int .i64 y.h) := ky.cell (HG1.out 6 (by decide) (by decide)).2
  have a7 : W1.cell? ⟨w.heap.size, 7, none⟩ = some (.int .i64 x.o) := kx.cell (HG1.out 7 (by decide) (by decide)).1
  have b7 : W1.cell? ⟨w.heap.size + 1, 7, none⟩ = some (.int .i64 y.o) := ky.cell (HG1.out 7 (by decide) (by decide)).2
  have a44 : W1.cell? ⟨w.heap.size, 44, none⟩ = some (.slice ab x.b.length cb) := kx.cell HC44.out.1
  have b44 : W1.cell? ⟨w.heap.size + 1, 44, none⟩ = some (.slice ab' y.b.length cb') := ky.cell HC44.out.2
  have k5 := seg_stringD (hS.below hB1 (Nat.le_refl _)) 9 Try.underlying9
  have k6 := seg_stringD (hS'.below hB1 (Nat.le_refl _)) 9 Try.underlying9
  have hq := str_beq x.b y.b
  generalize (⟨x.b.toArray⟩ : ByteArray) = BX at *
  generalize (⟨y.b.toArray⟩ : ByteArray) = BY at *
  generalize hd : decide (x.b = y.b) = b6 at *
  clear hS hS' kx ky HC44 HG1 HG0
  cases h0 : (x.k == y.k) with
  | false =>
    clear hq k5 k6 hd
    go_wp2
    go_ret
    exact ⟨ret_bool (by rw [h0]; rfl), hB1⟩
  | true =>
    cases h1 : (x.d == y.d) with
    | false =>
      clear hq k5 k6 hd
      go_wp2
      go_ret
      exact ⟨ret_bool (by rw [h0, h1]; rfl), hB1⟩
    | true =>
      cases h2 : (x.c == y.c) with
      | false =>
        clear hq k5 k6 hd
        go_wp2
        go_ret
        exact ⟨ret_bool (by rw [h0, h1, h2]; rfl), hB1⟩
      | true =>
        cases h3 : (x.l == y.l) with
        | false =>
          clear hq k5 k6 hd
          go_wp2
          go_ret
          exact ⟨ret_bool (by rw [h0, h1, h2, h3]; rfl), hB1⟩
        | true =>
          cases h4 : (x.v == y.v) with
          | false =>
            clear hq k5 k6 hd
            go_wp2
            go_ret
            exact ⟨ret_bool (by rw [h0, h1, h2, h3, h4]; rfl), hB1⟩
          | true =>
            cases h5 : (x.s == y.s) with
            | false =>
              clear hq k5 k6 hd
              go_wp2
              go_ret
              exact ⟨ret_bool (by rw [h0, h1, h2, h3, h4, h5]; rfl), hB1⟩
            | true =>
              cases h6 : (x.h == y.h) with
              | false =>
                clear hq k5 k6 hd
                go_wp2
                go_ret
                exact ⟨ret_bool (by rw [h0, h1, h2, h3, h4, h5, h6]; rfl), hB1⟩
              | true =>
                cases h7 : (x.o == y.o) with
                | false =>
                  clear hq k5 k6 hd
                  go_wp2
                  go_ret
                  exact ⟨ret_bool (by rw [h0, h1, h2, h3, h4, h5, h6, h7]; rfl), hB1⟩
                | true =>
                  cases b6 with
                  | false =>
                    have hq' : (BX.toList == BY.toList) = false := hq
                    have HD : Hid (decide (x.b = y.b) = false) := hd
                    clear hq hd
                    go_wp2
                    go_ret
                    exact ⟨ret_bool (by rw [h0, h1, h2, h3, h4, h5, h6, h7, HD.out]; rfl), hB1⟩
                  | true =>
                    have hq' : (BX.toList == BY.toList) = true := hq
                    have HD : Hid (decide (x.b = y.b) = true) := hd
                    clear hq hd
                    go_wp2
                    go_ret
                    exact ⟨ret_bool (by rw [h0, h1, h2, h3, h4, h5, h6, h7, HD.out]; rfl), hB1⟩
end Go.Proofs.Ytgfcindkfnjeoaa
