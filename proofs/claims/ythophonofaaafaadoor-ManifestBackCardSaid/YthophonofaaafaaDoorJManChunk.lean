/-
  What is proved here: manifest.Chunk answers as the plain function does.
  Conditions: those that the fact names.
-/
import Derived.Test.YthophonofaaafaaDoorJManSpan
import Derived.Deep.QuietTactic
import Derived.BigQuiet
namespace Go.Proofs.YthophonofaaafaaDoor
open Go.RowKit

set_option maxRecDepth 100000 in
set_option maxHeartbeats 1000000 in
theorem mchunk_any (m : MM) (su : Value) (i : Int) (bv : Value) (bs : List UInt8) (w : World) (hh : m.h.length = 32) (hm : m.u.length ≤ 1000000000) (hu : Wds w su m.u) (hbl : bs.length ≤ 1000000000) (hseg : Seg w bv bs) (hgf : 2 < w.heap.size) (hf : Tab w 2 (fours.map v32)) :
    Calls Tryd.prog 20 #[manV m su, .int .i64 i, bv] w fun e w' => e = .returned (.bool (isChunk m i bs)) ∧ Below w.heap.size w w' := by
  have hB := (Below.refl w.heap.size w).alloc (Nat.le_refl _) (.cells (manC m su) 27)
  have k := Blk.new w 27 (manC m su)
  have hi := manC_info m su hh
  have h35 := manC_35 m su hh
  have HR : Hid (Calls Tryd.prog 14 #[manV m su, .int .i64 i] (w.alloc (.cells (manC m su) 27)) fun e w' => e = .returned (tup3 (spanE m i)) ∧ Below (w.alloc (.cells (manC m su) 27)).heap.size (w.alloc (.cells (manC m su) 27)) w') := span_any m su i _ hh hm (hu.alloc _)
  have HS : Hid (∀ V, Below w.heap.size w V → Calls Tryd.prog 37 #[bv] V fun e w' => e = .returned (v32 (crcOf bs)) ∧ w' = V) := fun V hV => csum_any bv bs V hbl (hseg.below hV (Nat.le_refl _)) (hf.below hV hgf)
  have HU : Hid (∀ V, Below w.heap.size w V → Wds V su m.u) := fun V hV => hu.below hV (Nat.le_refl _)
  obtain ⟨ab, cb, rfl⟩ := hseg.shapeD
  clear hu hseg hf hm hh hgf
  unfold manV tup3 at *
  by_cases h0 : (spanE m i).2.2 = 0
  · have hin : 0 ≤ i ∧ okM m ∧ i < countM m := Classical.byContradiction fun hn => by
      rw [show spanE m i = (0, 0, 1) from if_neg hn] at h0; cases h0
    have hlu := hin.2.1.2.1
    obtain ⟨I, rfl⟩ : ∃ I : Nat, i = I := ⟨i.toNat, (Int.toNat_of_nonneg hin.1).symm⟩
    have hI : I < m.u.length := by omega
    by_cases hl : (bs.length : Int) = (spanE m I).2.1
    · have HW : Hid (isChunk m I bs = (n32 (crcOf bs) == n32 m.u[I])) := by
        show _ = _
        unfold isChunk
        rw [n32_beq]
        refine decide_eq_decide.2 ⟨fun h => ?_, fun h => ⟨h0, hl, ?_⟩⟩
        · have := h.2.2
          rw [Int.toNat_natCast, List.getElem?_eq_getElem hI] at this
          exact (Option.some.inj this).symm
        · rw [Int.toNat_natCast, List.getElem?_eq_getElem hI, h]
      obtain ⟨y, hy⟩ : ∃ y, y = m.u[I] := ⟨_, rfl⟩
      rw [HW.out, ← hy]
      rw [h0] at HR
      have heq : ((bs.length : Int) == (spanE m I).2.1) = true := by simpa using hl
      clear HW h0 hl hin hlu
      generalize crcOf bs = S at *
      generalize (spanE m I).1 = X at *
      generalize (spanE m I).2.1 = Y at *
      generalize manC m su = MC at *
      go_enter Tryd.func20, Tryd.ntmps20
      go_wp2_with (refine wpList_load_row rfl 27 _ rfl w.heap.size rfl 27 _ (0, 0) _ k Tryd.underlying27 rfl hi ?_)
      refine HR.out.mono ?_
      rintro e w1 ⟨rfl, hb1⟩
      have k1 := k.below hb1 k.lt
      have hB1 : Below w.heap.size w w1 := hB.trans (hb1.mono hB.size)
      have hu1 := HU.out w1 hB1
      have HS1 : Hid (∀ n, Calls Tryd.prog 37 #[.slice ab bs.length cb] (w1.drewN n) fun e w' => e = .returned (v32 S) ∧ w' = w1.drewN n) := fun n => HS.out _ (Below.drewN hB1 n)
      clear HR HU HS hb1 hB k
      obtain ⟨au, cu, rfl, hr⟩ := hu1
      obtain ⟨b, off, rfl, hcu, hrow, hbb⟩ := hr (by omega)
      have c35 : w1.cell? ⟨w.heap.size, 35, none⟩ = some (.slice (some ⟨b, off, none⟩) m.u.length cu) := k1.cell h35
      have cy : w1.cell? ⟨b, off + I, none⟩ = some (v32 y) := by rw [hy]; exact hrow I hI
      have i1 : (I : Int) < (m.u.length : Int) := by omega
      clear hrow hr h35 k1 hi hy
      generalize m.u.length = ML at *
      go_wp2_with fail
      go_quiet ((go_at_call 37; refine Calls.quiet_of_same (HS1.out _)))
      go_wp2
      go_ret
      exact ⟨rfl, Below.drewN hB1 _⟩
    · have HW : Hid (isChunk m I bs = false) := decide_eq_false fun h => hl h.2.1
      rw [HW.out]
      rw [h0] at HR
      have heq : ((bs.length : Int) == (spanE m I).2.1) = false := by simpa using hl
      clear HW h0 hl hin hlu HS HU hI
      generalize (spanE m I).1 = X at *
      generalize (spanE m I).2.1 = Y at *
      generalize manC m su = MC at *
      go_enter Tryd.func20, Tryd.ntmps20
      go_wp2_with (refine wpList_load_row rfl 27 _ rfl w.heap.size rfl 27 _ (0, 0) _ k Tryd.underlying27 rfl hi ?_)
      refine HR.out.mono ?_
      rintro e w1 ⟨rfl, hb1⟩
      have hB1 : Below w.heap.size w w1 := hB.trans (hb1.mono hB.size)
      clear HR
      go_wp2_with fail
      go_quiet (fail)
      go_wp2
      go_ret
      exact ⟨rfl, Below.drewN hB1 _⟩
  · have HW : Hid (isChunk m i bs = false) := decide_eq_false fun h => h0 h.1
    rw [HW.out]
    have heq : ((spanE m i).2.2 == 0) = false := by simpa using h0
    clear HW h0 HS HU
    generalize (spanE m i).1 = X at *
    generalize (spanE m i).2.1 = Y at *
    generalize (spanE m i).2.2 = Z at *
    generalize manC m su = MC at *
    go_enter Tryd.func20, Tryd.ntmps20
    go_wp2_with (refine wpList_load_row rfl 27 _ rfl w.heap.size rfl 27 _ (0, 0) _ k Tryd.underlying27 rfl hi ?_)
    refine HR.out.mono ?_
    rintro e w1 ⟨rfl, hb1⟩
    have hB1 : Below w.heap.size w w1 := hB.trans (hb1.mono hB.size)
    clear HR
    go_wp2_with fail
    go_quiet (fail)
    go_wp2
    go_ret
    exact ⟨rfl, Below.drewN hB1 _⟩
end Go.Proofs.YthophonofaaafaaDoor
