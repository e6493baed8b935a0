/-
  What is proved here: the document's entry of a generation and a record.
  Conditions: those that each fact names.
-/
import Derived.Test.YtbdhkkdombdnkaaDoorJBootSmall
import Derived.Test.YtbdhkkdombdnkaaDoorJRefBootNext
import Derived.Test.YtbdhkkdombdnkaaDoorJBootEnc
namespace Go.Proofs.YtbdhkkdombdnkaaDoor
open Go.RowKit

set_option maxRecDepth 100000 in
set_option maxHeartbeats 2000000 in
theorem rentry9_any (g : Nat) (b : BR) (w : World) (hg : g ≤ 1073741824) (hok : b.ok) :
    Calls Tryd.prog 43 #[.int .i64 (g : Int), brV b] w fun e w' => ∃ v, e = .returned v ∧ Own w' w.heap.size v (entB g b) ∧ Below w.heap.size w w' := by
  have ht := hok.trial
  obtain ⟨⟨a1, a2⟩, ⟨t1, t2⟩, ⟨v1, v2⟩, ⟨u1, u2⟩, _⟩ := hok
  have HN : Hid (∀ W, Calls Tryd.prog 54 #[.int .i64 (g : Int)] W fun e w' => ∃ v, e = .returned v ∧ Own w' W.heap.size v (num4 g) ∧ Below W.heap.size W w') := fun W => number9_any g W (by omega)
  have HV0 : Hid (∀ W, Calls Tryd.prog 54 #[.int .i64 b.v0] W fun e w' => ∃ v, e = .returned v ∧ Own w' W.heap.size v (num4 b.v0.toNat) ∧ Below W.heap.size W w') := fun W => by have h := number9_any b.v0.toNat W (by omega); rw [Int.toNat_of_nonneg v1] at h; exact h
  have HV1 : Hid (∀ W, Calls Tryd.prog 54 #[.int .i64 b.v1] W fun e w' => ∃ v, e = .returned v ∧ Own w' W.heap.size v (num4 b.v1.toNat) ∧ Below W.heap.size W w') := fun W => by have h := number9_any b.v1.toNat W (by omega); rw [Int.toNat_of_nonneg u1] at h; exact h
  have h3 : (([UInt8.ofNat b.active.toNat, UInt8.ofNat (b.trial + 1).toNat, UInt8.ofNat b.tries.toNat] : List UInt8).map v8).toArray = #[.int .u8 b.active, .int .u8 (b.trial + 1), .int .u8 b.tries] := by
    show #[v8 _, v8 _, v8 _] = _
    rw [v8_ofNat _ (by omega), v8_ofNat _ (by omega), v8_ofNat _ (by omega), Int.toNat_of_nonneg a1, Int.toNat_of_nonneg (show 0 ≤ b.trial + 1 by omega), Int.toNat_of_nonneg t1]
  have x0 : IntKind.u8.wrap b.active = b.active := by simp only [IntKind.wrap_u8]; omega
  have x1 : IntKind.i64.wrap (b.trial + 1) = b.trial + 1 := by simp only [IntKind.wrap_i64]; omega
  have x2 : IntKind.u8.wrap (b.trial + 1) = b.trial + 1 := by simp only [IntKind.wrap_u8]; omega
  have x3 : IntKind.u8.wrap b.tries = b.tries := by simp only [IntKind.wrap_u8]; omega
  obtain ⟨a, t, r, V0, V1⟩ := b
  unfold brV brL
  simp only at *
  go_enter Tryd.func43, Tryd.ntmps43
  have k3 := Blk.new w 40 #[.int .i64 a, .int .i64 t, .int .i64 r, .int .i64 V0, .int .i64 V1]
  have hb0 := (Below.refl w.heap.size w).alloc (Nat.le_refl _) (.cells #[.int .i64 a, .int .i64 t, .int .i64 r, .int .i64 V0, .int .i64 V1] 40)
  go_wp2_with fail
  refine (HN.out _).mono ?_
  rintro e w1 ⟨v9, rfl, ho1, hb1⟩
  have hB1 : Below w.heap.size w w1 := hb0.trans (hb1.mono hb0.size)
  have m3 := k3.below hb1 k3.lt
  clear k3 hb0 hb1
  have s1 := m3.lt
  have HR3 : Hid (∀ W : World, Seg (W.alloc (.cells #[.int .u8 a, .int .u8 (t + 1), .int .u8 r] 5)) (.slice (some ⟨W.heap.size, 0, none⟩) 3 3) [UInt8.ofNat a.toNat, UInt8.ofNat (t + 1).toNat, UInt8.ofNat r.toNat]) := fun W => by have h := (own_new7 W [UInt8.ofNat a.toNat, UInt8.ofNat (t + 1).toNat, UInt8.ofNat r.toNat] (by unfold maxLen; show 3 ≤ _; decide)).seg; rw [h3] at h; exact h
  clear h3
  go_wp2_with (first | (at_builtin; refine app_own w1 rfl (.tmp 6) (.tmp 8) rfl (w.heap.size + 1) _ [] rfl ⟨rfl, .inl ⟨rfl, rfl⟩⟩ v9 (num4 g) rfl ho1.seg (by show 0 + 4 ≤ _; decide) (by have := m3.lt; omega) ?_; intro v2 w2 ho2 hg2 hv2; rw [List.nil_append] at ho2; have hB2 : Below (w.heap.size + 1) w1 w2 := below_grown (Below.refl _ w1) hg2 (by have := m3.lt; omega) (fun q hq => by cases hq); have m4 := m3.below hB2 (by omega); have c0 : w2.cell? ⟨w.heap.size, 0, none⟩ = some (.int .i64 a) := m4.cell (j := 0) rfl; have c1 : w2.cell? ⟨w.heap.size, 1, none⟩ = some (.int .i64 t) := m4.cell (j := 1) rfl; have c2 : w2.cell? ⟨w.heap.size, 2, none⟩ = some (.int .i64 r) := m4.cell (j := 2) rfl; have s2 := m4.lt; clear hv2 hg2) | (at_builtin; refine app_own _ rfl (.tmp 10) (.tmp 21) rfl (w.heap.size + 1) v2 (num4 g) rfl (by exact ho2.alloc _) _ [UInt8.ofNat a.toNat, UInt8.ofNat (t + 1).toNat, UInt8.ofNat r.toNat] rfl (by exact HR3.out w2) (by show 4 + 3 ≤ _; decide) (by simp; omega) ?_; intro v3 w3 ho3 hg3 hv3; have hB3 : Below (w.heap.size + 1) w1 w3 := below_grown (hB2.alloc (by omega) _) hg3 (by simp; omega) (fun q hq => (ho2.blocks q hq).1); have m5 := m3.below hB3 (by omega); have c3 : w3.cell? ⟨w.heap.size, 3, none⟩ = some (.int .i64 V0) := m5.cell (j := 3) rfl; have s3 := m5.lt; clear hv3 hg3 c0 c1 c2) | fail)
  refine (HV0.out _).mono ?_
  rintro e w4 ⟨v4, rfl, ho4, hb4⟩
  have hB4 : Below (w.heap.size + 1) w1 w4 := hB3.trans (hb4.mono (by have := hB3.size; omega))
  have ho3' := ho3.below hb4 (by have := m5.lt; omega)
  clear ho1 ho2 ho3 m4 m5 HN HV0 HR3 x0 x1 x2 x3 c3 hB2 s2 s3
  go_wp2_with (first | (at_builtin; refine app_own w4 rfl (.tmp 23) (.tmp 27) rfl (w.heap.size + 1) v3 (num4 g ++ [UInt8.ofNat a.toNat, UInt8.ofNat (t + 1).toNat, UInt8.ofNat r.toNat]) rfl ho3' v4 (num4 V0.toNat) rfl ho4.seg (by show 7 + 4 ≤ _; decide) (by have := hB4.size; omega) ?_; intro v5 w5 ho5 hg5 hv5; have hB5 : Below (w.heap.size + 1) w1 w5 := below_grown hB4 hg5 (by have := hB4.size; omega) (fun q hq => (ho3'.blocks q hq).1); have m6 := m3.below hB5 (by omega); have c4 : w5.cell? ⟨w.heap.size, 4, none⟩ = some (.int .i64 V1) := m6.cell (j := 4) rfl; have s5 := m6.lt; clear hv5 hg5) | fail)
  refine (HV1.out _).mono ?_
  rintro e w6 ⟨v6, rfl, ho6, hb6⟩
  have hB6 : Below (w.heap.size + 1) w1 w6 := hB5.trans (hb6.mono (by have := hB5.size; omega))
  have ho5' := ho5.below hb6 (by have := m6.lt; omega)
  clear ho3' ho4 ho5 hb4 hb6 c4 HV1 s5
  go_wp2_with (first | (at_builtin; refine app_own w6 rfl (.tmp 29) (.tmp 33) rfl (w.heap.size + 1) v5 (num4 g ++ [UInt8.ofNat a.toNat, UInt8.ofNat (t + 1).toNat, UInt8.ofNat r.toNat] ++ num4 V0.toNat) rfl ho5' v6 (num4 V1.toNat) rfl ho6.seg (by show 11 + 4 ≤ _; decide) (by have := hB6.size; omega) ?_; intro v7 w7 ho7 hg7 hv7; have hB7 : Below (w.heap.size + 1) w1 w7 := below_grown hB6 hg7 (by have := hB6.size; omega) (fun q hq => (ho5'.blocks q hq).1); have ha := app_zeros w7 (w.heap.size + 1) v7 (num4 g ++ [UInt8.ofNat a.toNat, UInt8.ofNat (t + 1).toNat, UInt8.ofNat r.toNat] ++ num4 V0.toNat ++ num4 V1.toNat) ho7 14 (by decide) (by show 15 ≤ _; decide) (by have := hB7.size; omega); obtain ⟨v8', w8, hr8, ho8, hg8, hk8⟩ := ha; obtain ⟨a2', c2', hv2'⟩ := ho7.seg.shapeD; subst hv2'; clear hv7 hg7) | (at_builtin; refine app_ranZ9 _ w8 rfl _ _ 41 3 rfl _ _ v8' rfl rfl hr8 ?_) | fail)
  have hB8 : Below (w.heap.size + 1) w1 w8 := below_grown hB7 hg8 (by have := hB7.size; omega) (fun q hq => (ho7.blocks q hq).1)
  refine (refSeal_any v8' _ w8 (by show 29 ≤ _; decide) ho8.seg).mono ?_
  rintro e w9 ⟨v9', rfl, ho9, hb9⟩
  have hB9 : Below w.heap.size w w9 := hB1.trans ((hB8.mono (Nat.le_succ _)).trans (hb9.mono (by have := hB8.size; omega)))
  go_wp2
  go_ret
  refine ⟨_, rfl, ?_, hB9⟩
  have ht : num4 g ++ [UInt8.ofNat a.toNat, UInt8.ofNat (t + 1).toNat, UInt8.ofNat r.toNat] ++ num4 V0.toNat ++ num4 V1.toNat ++ noughts 14 = textB g ⟨a, t, r, V0, V1⟩ := by
    have o : ∀ n, n < 256 → leN n 1 = [UInt8.ofNat n] := fun n hn => by simp [leN, Nat.mod_eq_of_lt hn]
    unfold textB numsB noughts
    simp only
    rw [o _ (by omega), o _ (by omega), o _ (by omega), leN_num4, leN_num4, leN_num4]
    simp
  rw [ht] at ho9
  exact ho9.mono (by have := hB1.size; have := hB8.size; omega)
end Go.Proofs.YtbdhkkdombdnkaaDoor
