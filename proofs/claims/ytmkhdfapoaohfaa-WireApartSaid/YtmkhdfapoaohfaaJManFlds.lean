/-
  What is proved here: manifest.fields makes the fields of a manifest.
  Conditions: none.
-/
import Derived.Test.YtmkhdfapoaohfaaJManFresh
import Derived.Test.YtmkhdfapoaohfaaJPackWorld
namespace Go.Proofs.Ytmkhdfapoaohfaa
open Go.RowKit

def sumF : Fld := .mk 1 0 16777215 []
def manF : List Fld := [.mk 1 1 1073741824 [], .mk 1 1 32768 [], .mk 1 16 1024 [], .mk 2 32 32 [], .mk 3 1 128 [sumF]]
abbrev fldA (k : Int) (a b : Nat) (o : Value) : Array Value := #[.int .i64 k, .int .u64 (a : Int), .int .u64 (b : Int), o]
theorem fldA_one (k : Int) (a b : Nat) (ao : Option Addr) (n c : Nat) : (fldA k a b (.slice ao n c)).all (·.oneCell') = true := by simp [fldA, Value.oneCell']
def fldZ : List Value := (List.replicate 5 [Value.int .i64 0, .int .u64 0, .int .u64 0, .slice none 0 0]).flatten
theorem mk_flds (w : World) : (Instr.makeSlice 40 (.int .i64 5) (.int .i64 5)).run Try.prog w = .ok (.slice (some ⟨w.heap.size, 0, none⟩) 5 5) (w.alloc (.cells fldZ.toArray 62)) := by kernel_rfl
theorem info_fldM : (Try.prog.info? 62).map (·.size) = some 4 := by kernel_rfl
set_option maxRecDepth 100000 in
theorem flds1_any (a b : Nat) (w : World) : Calls Try.prog 72 #[.int .u64 (a : Int), .int .u64 (b : Int)] w fun e w' => e = .returned (.agg (fldA 1 a b (.slice none 0 0))) ∧ Below w.heap.size w w' := by
  go_enter Try.func72, Try.ntmps72
  go_wp2
  exact bodyPost_ret (v := .agg (fldA 1 a b (.slice none 0 0))) (by simp [results, Try.results72, go_sem, fldA]) rfl ⟨rfl, (Below.refl _ _).alloc (Nat.le_refl _) _⟩

/-- The cells of the fields of which the first i are laid. -/
def fldsC (i : Nat) (o : Value) : List Value := ([fldA 1 1 1073741824 (.slice none 0 0), fldA 1 1 32768 (.slice none 0 0), fldA 1 16 1024 (.slice none 0 0), fldA 2 32 32 (.slice none 0 0), fldA 3 1 128 o].map (·.toList)).flatten.take (4 * i) ++ fldZ.drop (4 * i)
set_option maxRecDepth 100000 in
set_option maxHeartbeats 2000000 in
theorem mflds_any (w : World) : Calls Try.prog 52 #[] w fun e w' => ∃ v, e = .returned v ∧ Flds w' 2 v manF ∧ Below w.heap.size w w' := by
  have H1 : Hid (∀ (a b : Nat) V, Calls Try.prog 72 #[.int .u64 (a : Int), .int .u64 (b : Int)] V fun e w' => e = .returned (.agg (fldA 1 a b (.slice none 0 0))) ∧ Below V.heap.size V w') := fun a b V => flds1_any a b V
  have hmk := mk_flds
  have hB0 := (Below.refl w.heap.size w).alloc (Nat.le_refl _) (.cells fldZ.toArray 62)
  have k0 := Blk.new w 62 fldZ.toArray
  have hi := info_fldM
  obtain ⟨g, hg⟩ : ∃ g, g = w.heap.size := ⟨_, rfl⟩
  have hgw : w.heap.size ≤ g := Nat.le_of_eq hg.symm
  rw [← hg] at k0
  have HG : Hid (w.heap.size = g) := hg.symm
  go_enter Try.func52, Try.ntmps52
  go_wp2_with fail
  rw [HG.out]
  clear hg hmk
  refine (H1.out 1 1073741824 _).mono ?_
  rintro e w1 ⟨rfl, hb1⟩
  have k1 := k0.below hb1 k0.lt
  have hB1 : Below w.heap.size w w1 := hB0.trans (hb1.mono hB0.size)
  clear k0 hb1 hB0
  go_wp2_with (refine store_mid rfl 62 _ _ rfl rfl g 0 (fldA 1 1 1073741824 (.slice none 0 0)) rfl rfl 62 _ k1 hi (by decide) (fldA_one _ _ _ _ _ _) ?_; intro W2 k2o hg2 hs2; clear hs2; have k2 : Blk W2 g 62 (fldsC 1 (.slice none 0 0)).toArray := k2o.of_eq rfl; clear k2o)
  have hB2 : Below w.heap.size w W2 := below_grown hB1 hg2 hB1.size (fun q hq => by cases hq; exact hgw)
  clear k1 hg2 hB1
  refine (H1.out 1 32768 _).mono ?_
  rintro e w3 ⟨rfl, hb3⟩
  have k3 := k2.below hb3 k2.lt
  have hB3 : Below w.heap.size w w3 := hB2.trans (hb3.mono hB2.size)
  clear k2 hb3 hB2
  go_wp2_with (refine store_mid rfl 62 _ _ rfl rfl g 4 (fldA 1 1 32768 (.slice none 0 0)) rfl rfl 62 _ k3 hi (by decide) (fldA_one _ _ _ _ _ _) ?_; intro W4 k4o hg4 hs4; clear hs4; have k4 : Blk W4 g 62 (fldsC 2 (.slice none 0 0)).toArray := k4o.of_eq rfl; clear k4o)
  have hB4 : Below w.heap.size w W4 := below_grown hB3 hg4 hB3.size (fun q hq => by cases hq; exact hgw)
  clear k3 hg4 hB3
  refine (H1.out 16 1024 _).mono ?_
  rintro e w5 ⟨rfl, hb5⟩
  have k5 := k4.below hb5 k4.lt
  have hB5 : Below w.heap.size w w5 := hB4.trans (hb5.mono hB4.size)
  clear k4 hb5 hB4
  go_wp2_with (first | (refine store_mid rfl 62 _ _ rfl rfl g 8 (fldA 1 16 1024 (.slice none 0 0)) rfl rfl 62 _ k5 hi (by decide) (fldA_one _ _ _ _ _ _) ?_; intro W6 k6o hg6 hs6; clear hs6; have k6 : Blk W6 g 62 (fldsC 3 (.slice none 0 0)).toArray := k6o.of_eq rfl; clear k6o) | (refine store_mid rfl 62 _ _ rfl rfl g 12 (fldA 2 32 32 (.slice none 0 0)) rfl rfl 62 _ k6 hi (by decide) (fldA_one _ _ _ _ _ _) ?_; intro W7 k7o hg7 hs7; clear hs7; have k7 : Blk W7 g 62 (fldsC 4 (.slice none 0 0)).toArray := k7o.of_eq rfl; clear k7o))
  have hB6 : Below w.heap.size w W6 := below_grown hB5 hg6 hB5.size (fun q hq => by cases hq; exact hgw)
  have hB7 : Below w.heap.size w W7 := below_grown hB6 hg7 hB6.size (fun q hq => by cases hq; exact hgw)
  clear k5 hg6 hB5 k6 hg7 hB6
  refine (H1.out 0 16777215 _).mono ?_
  rintro e w8 ⟨rfl, hb8⟩
  have k8 := k7.below hb8 k7.lt
  have hB8 : Below w.heap.size w w8 := hB7.trans (hb8.mono hB7.size)
  have k9 := k8.alloc (.cells (fldA 1 0 16777215 (.slice none 0 0)) 62)
  have kn := Blk.new w8 62 (fldA 1 0 16777215 (.slice none 0 0))
  have hgl := k8.lt
  clear k7 hb8 hB7
  go_wp2_with (refine store_mid rfl 62 _ _ rfl rfl g 16 (fldA 3 1 128 (.slice (some ⟨w8.heap.size, 0, none⟩) 1 1)) rfl rfl 62 _ (by exact k9) hi (by show 16 + 4 ≤ (fldsC 4 (.slice none 0 0)).toArray.size; decide) (fldA_one _ _ _ _ _ _) ?_; intro W9 k9o hg9 hs9; clear hs9; have k9' : Blk W9 g 62 (fldsC 5 (.slice (some ⟨w8.heap.size, 0, none⟩) 1 1)).toArray := k9o.of_eq rfl; clear k9o)
  have hBa := hB8.alloc hB8.size (.cells (fldA 1 0 16777215 (.slice none 0 0)) 62)
  have hB9 : Below w.heap.size w W9 := below_grown hBa hg9 hBa.size (fun q hq => by cases hq; exact hgw)
  have kn9 : Blk W9 w8.heap.size 62 (fldA 1 0 16777215 (.slice none 0 0)) := kn.grown hg9 (by simp; omega)
  go_ret
  refine ⟨_, rfl, ?_, hB9⟩
  have HN : Flds W9 1 (.slice (some ⟨w8.heap.size, 0, none⟩) 1 1) [sumF] := by
    refine ⟨_, 1, rfl, by decide, fun _ => ⟨w8.heap.size, 0, rfl, kn9.lt, Nat.le_refl _, fun i f hf => ?_⟩⟩
    match i, hf with
    | 0, hf =>
      cases hf
      exact ⟨kn9.cell (j := 0) rfl, kn9.cell (j := 1) rfl, kn9.cell (j := 2) rfl, ⟨_, kn9.cell (j := 3) rfl, rfl, rfl⟩, by decide, by decide⟩
    | (i + 1), hf => cases hf
  have HZ : Flds W9 1 (.slice none 0 0) [] := ⟨none, 0, rfl, by decide, fun h => by simp at h⟩
  refine ⟨some ⟨g, 0, none⟩, 5, rfl, by decide, fun _ => ⟨g, 0, rfl, k9'.lt, by decide, fun i f hf => ?_⟩⟩
  match i, hf with
  | 0, hf => cases hf; exact ⟨k9'.cell (j := 0) rfl, k9'.cell (j := 1) rfl, k9'.cell (j := 2) rfl, ⟨_, k9'.cell (j := 3) rfl, HZ⟩, by decide, by decide⟩
  | 1, hf => cases hf; exact ⟨k9'.cell (j := 4) rfl, k9'.cell (j := 5) rfl, k9'.cell (j := 6) rfl, ⟨_, k9'.cell (j := 7) rfl, HZ⟩, by decide, by decide⟩
  | 2, hf => cases hf; exact ⟨k9'.cell (j := 8) rfl, k9'.cell (j := 9) rfl, k9'.cell (j := 10) rfl, ⟨_, k9'.cell (j := 11) rfl, HZ⟩, by decide, by decide⟩
  | 3, hf => cases hf; exact ⟨k9'.cell (j := 12) rfl, k9'.cell (j := 13) rfl, k9'.cell (j := 14) rfl, ⟨_, k9'.cell (j := 15) rfl, HZ⟩, by decide, by decide⟩
  | 4, hf => cases hf; exact ⟨k9'.cell (j := 16) rfl, k9'.cell (j := 17) rfl, k9'.cell (j := 18) rfl, ⟨_, k9'.cell (j := 19) rfl, HN⟩, by decide, by decide⟩
  | (i + 5), hf => cases hf
end Go.Proofs.Ytmkhdfapoaohfaa
