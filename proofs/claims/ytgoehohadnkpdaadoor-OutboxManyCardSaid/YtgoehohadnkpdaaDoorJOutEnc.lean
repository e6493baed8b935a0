/-
  What is proved here: entry.encode of outbox makes an entry's bytes.
  Conditions: the report may be, the number is at most two to the thirtieth; the variable fourBits holds the sixteen words.
-/
import Derived.Test.YtgoehohadnkpdaaDoorJOutFlds
import Derived.Test.YtgoehohadnkpdaaDoorJOutRight
import Derived.Test.YtgoehohadnkpdaaDoorJDiskPure
namespace Go.Proofs.YtgoehohadnkpdaaDoor
open Go.RowKit

set_option maxRecDepth 100000 in
set_option maxHeartbeats 2000000 in
theorem encodeX (g : Nat) (b : RP) (wh : Nat) (la : Int) (w : World) (hg : g ≤ 1073741824) (hb : b.ok) (hgf : 1 < w.heap.size) (hf : Tab w 1 (fours.map v32)) :
    Calls Tryd.prog 31 #[xeV ⟨g, b, wh, la⟩] w fun e w' => ∃ v, e = .returned v ∧ Own w' w.heap.size v (entO g b) ∧ Below w.heap.size w w' := by
  have HE : Hid (encTop outF (outV g b) = some (numsO g b)) := out_enc g b hg hb
  have HT : Hid (entO g b = textO g b ++ sumB (crcOf (textO g b))) := rfl
  have HT2 : Hid (textO g b = numsO g b ++ noughts 11) := rfl
  have HL : Hid ((numsO g b).length = 17) := numsO_len g b
  obtain ⟨⟨a1, a2⟩, ⟨t1, t2⟩, ⟨v1, v2⟩, u1, u2⟩ := hb
  have HV : Hid ((natsO g b).map numV = outV g b) := rfl
  obtain ⟨l, hl⟩ : ∃ l, l = natsO g b := ⟨_, rfl⟩
  have HS : Hid (∀ x ∈ natsO g b, x < 18446744073709551616) := fun x hx => by
    simp only [natsO, List.mem_cons, List.not_mem_nil, or_false] at hx
    rcases hx with rfl | rfl | rfl | rfl | rfl <;> omega
  generalize outV g b = BV at *
  generalize numsO g b = NB at *
  generalize entO g b = EB at *
  generalize textO g b = TB at *
  unfold natsO at *
  unfold xeV xeL
  obtain ⟨pc, pl, pv, po⟩ := b
  simp only at *
  obtain ⟨A, rfl⟩ : ∃ A : Nat, pc = (A : Int) := ⟨pc.toNat, by omega⟩
  obtain ⟨B, rfl⟩ : ∃ B : Nat, pl = (B : Int) := ⟨pl.toNat, by omega⟩
  obtain ⟨C, rfl⟩ : ∃ C : Nat, pv = (C : Int) := ⟨pv.toNat, by omega⟩
  obtain ⟨D, rfl⟩ : ∃ D : Nat, po = (D : Int) := ⟨po.toNat, by omega⟩
  simp only [Int.toNat_natCast] at hl HS HV
  have hwg : IntKind.u64.wrap (g : Int) = (g : Int) := by rw [IntKind.wrap_u64]; omega
  have hwA : IntKind.u64.wrap (A : Int) = (A : Int) := by rw [IntKind.wrap_u64]; omega
  have hwB : IntKind.u64.wrap (B : Int) = (B : Int) := by rw [IntKind.wrap_u64]; omega
  have hwC : IntKind.u64.wrap (C : Int) = (C : Int) := by rw [IntKind.wrap_u64]; omega
  have hwD : IntKind.u64.wrap (D : Int) = (D : Int) := by rw [IntKind.wrap_u64]; omega
  have HLl : Hid (l = [g, A, B, C, D]) := hl
  clear hl a1 a2 t1 t2 v1 v2 u1 u2 hg
  have hB0 := ((Below.refl w.heap.size w).alloc (Nat.le_refl _) (.cells #[.int .i64 (g : Int), .int .i64 (A : Int), .int .i64 (B : Int), .int .i64 (C : Int), .int .i64 (D : Int), .int .i64 (wh : Int), .int .i64 la] 63)).alloc (by simp) (.cells #[.int .i64 (A : Int), .int .i64 (B : Int), .int .i64 (C : Int), .int .i64 (D : Int)] 23)
  go_enter Tryd.func31, Tryd.ntmps31
  go_wp2
  go_loopw [4, 22] (fun v i wr => ∃ k : Nat, k ≤ 5 ∧ i = .int .i64 k ∧ wr.ownsRow w.heap.size 102 3 v k (valCs (l.take k)) ∧ Below w.heap.size w wr) (fun _ i _ => 5 - (intOf i).toNat)
  case atStart => exact ⟨0, Nat.zero_le _, rfl, ⟨rfl, .inl ⟨rfl, rfl⟩⟩, by simpa using hB0⟩
  case round =>
    obtain ⟨k, hk, rfl, hown, hB⟩ := hrel
    clear hB0
    by_cases hlt : k < 5
    · have hcases : k = 0 ∨ k = 1 ∨ k = 2 ∨ k = 3 ∨ k = 4 := by omega
      rcases hcases with rfl | rfl | rfl | rfl | rfl
      · obtain ⟨v', W', hr, ho, hb⟩ := val_more wr w.heap.size 0 g l _ hown (by decide) (by rw [HLl.out]; rfl) hB.size
        have HB := hb (Nat.le_refl _) hB hB.size
        have HO : Hid (W'.ownsRow w.heap.size 102 3 v' (0 + 1) (valCs (l.take (0 + 1)))) := ho
        have hix : ∀ w, (Instr.index 98 (.agg #[.int .i64 (g : Int), .int .i64 (A : Int), .int .i64 (B : Int), .int .i64 (C : Int), .int .i64 (D : Int)]) (.int .i64 0)).run Tryd.prog w = .ok (.int .i64 (g : Int)) w := fun w => by kernel_rfl
        clear ho hb hown
        go_wp2_with (at_builtin; refine app_ran9 _ W' rfl _ _ 97 rfl _ _ v' rfl rfl hr ?_)
        go_roundw
        case rel => exact ⟨1, by decide, rfl, HO.out, HB⟩
        case measure => simp [intOf]
      · obtain ⟨v', W', hr, ho, hb⟩ := val_more wr w.heap.size 1 A l _ hown (by decide) (by rw [HLl.out]; rfl) hB.size
        have HB := hb (Nat.le_refl _) hB hB.size
        have HO : Hid (W'.ownsRow w.heap.size 102 3 v' (1 + 1) (valCs (l.take (1 + 1)))) := ho
        have hix : ∀ w, (Instr.index 98 (.agg #[.int .i64 (g : Int), .int .i64 (A : Int), .int .i64 (B : Int), .int .i64 (C : Int), .int .i64 (D : Int)]) (.int .i64 1)).run Tryd.prog w = .ok (.int .i64 (A : Int)) w := fun w => by kernel_rfl
        clear ho hb hown
        go_wp2_with (at_builtin; refine app_ran9 _ W' rfl _ _ 97 rfl _ _ v' rfl rfl hr ?_)
        go_roundw
        case rel => exact ⟨2, by decide, rfl, HO.out, HB⟩
        case measure => simp [intOf]
      · obtain ⟨v', W', hr, ho, hb⟩ := val_more wr w.heap.size 2 B l _ hown (by decide) (by rw [HLl.out]; rfl) hB.size
        have HB := hb (Nat.le_refl _) hB hB.size
        have HO : Hid (W'.ownsRow w.heap.size 102 3 v' (2 + 1) (valCs (l.take (2 + 1)))) := ho
        have hix : ∀ w, (Instr.index 98 (.agg #[.int .i64 (g : Int), .int .i64 (A : Int), .int .i64 (B : Int), .int .i64 (C : Int), .int .i64 (D : Int)]) (.int .i64 2)).run Tryd.prog w = .ok (.int .i64 (B : Int)) w := fun w => by kernel_rfl
        clear ho hb hown
        go_wp2_with (at_builtin; refine app_ran9 _ W' rfl _ _ 97 rfl _ _ v' rfl rfl hr ?_)
        go_roundw
        case rel => exact ⟨3, by decide, rfl, HO.out, HB⟩
        case measure => simp [intOf]
      · obtain ⟨v', W', hr, ho, hb⟩ := val_more wr w.heap.size 3 C l _ hown (by decide) (by rw [HLl.out]; rfl) hB.size
        have HB := hb (Nat.le_refl _) hB hB.size
        have HO : Hid (W'.ownsRow w.heap.size 102 3 v' (3 + 1) (valCs (l.take (3 + 1)))) := ho
        have hix : ∀ w, (Instr.index 98 (.agg #[.int .i64 (g : Int), .int .i64 (A : Int), .int .i64 (B : Int), .int .i64 (C : Int), .int .i64 (D : Int)]) (.int .i64 3)).run Tryd.prog w = .ok (.int .i64 (C : Int)) w := fun w => by kernel_rfl
        clear ho hb hown
        go_wp2_with (at_builtin; refine app_ran9 _ W' rfl _ _ 97 rfl _ _ v' rfl rfl hr ?_)
        go_roundw
        case rel => exact ⟨4, by decide, rfl, HO.out, HB⟩
        case measure => simp [intOf]
      · obtain ⟨v', W', hr, ho, hb⟩ := val_more wr w.heap.size 4 D l _ hown (by decide) (by rw [HLl.out]; rfl) hB.size
        have HB := hb (Nat.le_refl _) hB hB.size
        have HO : Hid (W'.ownsRow w.heap.size 102 3 v' (4 + 1) (valCs (l.take (4 + 1)))) := ho
        have hix : ∀ w, (Instr.index 98 (.agg #[.int .i64 (g : Int), .int .i64 (A : Int), .int .i64 (B : Int), .int .i64 (C : Int), .int .i64 (D : Int)]) (.int .i64 4)).run Tryd.prog w = .ok (.int .i64 (D : Int)) w := fun w => by kernel_rfl
        clear ho hb hown
        go_wp2_with (at_builtin; refine app_ran9 _ W' rfl _ _ 97 rfl _ _ v' rfl rfl hr ?_)
        go_roundw
        case rel => exact ⟨5, by decide, rfl, HO.out, HB⟩
        case measure => simp [intOf]
    · obtain rfl : k = 5 := by omega
      have HW : Hid (Vals wr 1 u4 BV) := by
        rw [← HV.out, ← HLl.out]
        exact vals9_of (w := wr) l (by rw [HLl.out]; exact Nat.succ_pos _) (by rw [HLl.out]; exact HS.out) (by rw [HLl.out]; show 5 ≤ maxLen; decide) (by rw [HLl.out]; rw [HLl.out] at hown; exact hown)
      clear hown hlt hk HS HV HLl hwg hwA hwB hwC hwD
      have HFI : Hid (Calls Tryd.prog 52 #[] wr fun e w' => ∃ v, e = .returned v ∧ Flds w' 1 v outF ∧ Below wr.heap.size wr w') := fieldsX wr
      obtain ⟨au, cu, hu, _, _⟩ := HW.out.form
      subst hu
      go_wp2_with fail
      refine HFI.out.mono ?_
      rintro e w1 ⟨v1, rfl, hF1, hb1⟩
      clear HFI
      have hV1 := Vals.keeps (Keeps.of_below hb1 (Nat.le_refl _)) _ _ _ HW.out
      obtain ⟨af, cf, hfv, _, _⟩ := hF1.form
      subst hfv
      have HEN : Hid (Calls Tryd.prog 51 #[.slice af outF.length cf, .slice au BV.length cu] w1 fun e w' => encodePost w1 (encTop outF BV) e w') := encode_any 1 _ outF 1 _ BV w1 hF1 hV1
      rw [HE.out] at HEN
      go_wp2_with fail
      refine HEN.out.mono ?_
      rintro e w2 ⟨⟨v2, rfl, ho2⟩, hb2⟩
      clear HEN
      have hB2 : Below w.heap.size w w2 := (hB.trans (hb1.mono hB.size)).trans (hb2.mono (Nat.le_trans hB.size hb1.size))
      have hs1 := Nat.le_trans hB.size hb1.size
      obtain ⟨v3, w3, hr3, ho3, hg3, hblk3⟩ := app_zeros w2 w1.heap.size v2 NB ho2 11 (by decide) (by rw [HL.out]; decide) hb2.size
      rw [← HT2.out] at ho3
      have hB3 : Below w.heap.size w w3 := below_grown hB2 hg3 (Nat.le_trans hs1 hb2.size) (fun q hq => Nat.le_trans hs1 (ho2.blocks q hq).1)
      have hTL : TB.length ≤ 100000000 := by rw [HT2.out, List.length_append, HL.out, noughts_length]; decide
      obtain ⟨a2, c2, hv2⟩ := ho2.seg.shapeD
      subst hv2
      go_wp2_with (at_builtin; refine app_ranZ9 _ w3 rfl _ _ 35 3 rfl _ _ v3 rfl rfl hr3 ?_)
      refine (seal_any v3 TB w3 hTL ho3.seg (Nat.lt_of_lt_of_le hgf hB3.size) (hf.below hB3 hgf)).mono ?_
      rintro e w4 ⟨v4, rfl, ho4, hb4⟩
      have HO4 : Own w4 w.heap.size v4 EB := by rw [HT.out]; exact ho4.mono hB3.size
      clear ho4
      go_wp2
      go_ret
      exact ⟨v4, rfl, HO4, hB3.trans (hb4.mono hB3.size)⟩
end Go.Proofs.YtgoehohadnkpdaaDoor
