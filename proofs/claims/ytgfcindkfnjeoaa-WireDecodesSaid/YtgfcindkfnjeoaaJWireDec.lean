/-
  What is proved here: wire.Decode tells the message that stands in bytes, or that there is none.
  Conditions: the bytes lie in memory.
-/
import Derived.Test.YtgfcindkfnjeoaaJWireOf
import Derived.Test.YtgfcindkfnjeoaaJWireEnc
namespace Go.Proofs.Ytgfcindkfnjeoaa
open Go.RowKit

theorem exec_slW {a : Act} {o : Oper} {w : World} (x y : Operand) (ho : o.op = .slice 26 x (some y) none none) (u v r : Value) (hx : a.eval x = u) (hy : a.eval y = v) (h : (Instr.slice 26 u (some v) none none).run Try.prog w = .ok r w) : (execOp a.eval o).run Try.prog w = .ok (.value r) w := by
  unfold execOp
  have e := run_sliceAt_slice (P := Try.prog) w 26 u (some v) none none (by rw [elem_bytes]; exact Try.underlying26)
  simp only [ho, hx, hy, Option.map_none, Option.map_some, Sem.run_bind, Sem.run_pure, e, h, Result.andThen_ok]
theorem conv_bW (c : Int) (h0 : 0 ≤ c) (h1 : c < 256) (w : World) : (convert 5 3 (.int .u8 c)).run Try.prog w = .ok (.int .i64 c) w := by
  have hw : IntKind.i64.wrap c = c := by rw [IntKind.wrap_i64]; omega
  have h : (convert 5 3 (.int .u8 c)).run Try.prog w = .ok (.int .i64 (IntKind.i64.wrap c)) w := by kernel_rfl
  rw [h, hw]
theorem index_bW (b off len c : Nat) (w : World) (h : 0 < len) : (Instr.indexAt 26 (.slice (some ⟨b, off, none⟩) len c) (.int .i64 0)).run Try.prog w = .ok (.pointer (some ⟨b, off, none⟩)) w := by
  have hs : ∀ w, (sizeOf 5).run Try.prog w = .ok 1 w := fun w => by kernel_rfl
  have hi : (0 : Int) < (len : Int) := by omega
  simp [Instr.indexAt, asIntOf, run_underlying Try.underlying26, hs, Addr.add_mid]
  intro h2
  omega
/-- What Decode answers. -/
def decPostW (w : World) (s : List UInt8) (e : Ending) (w' : World) : Prop := ∃ (x : MS) (am : Option Addr) (cm : Nat) (ab : Option Addr) (cb : Nat) (er : Int), e = .returned (.tuple #[.agg (msA x (manL x.m (.slice am x.m.u.length cm)) (.slice ab x.b.length cb)), .int .i64 er]) ∧ x.m.h.length = 32 ∧ x.m.u.length ≤ 128 ∧ Wds w' (.slice am x.m.u.length cm) x.m.u ∧ Seg w' (.slice ab x.b.length cb) x.b ∧ x.b.length ≤ maxLen ∧ ((er = 0 ∧ bytesM x = some s) ∨ (er = 2 ∧ x = kMs 0 ∧ ∀ y : MS, y.m.h.length = 32 → bytesM y ≠ some s)) ∧ Below w.heap.size w w'
theorem seg_nilW (w : World) : Seg w (.slice none 0 0) ([] : List UInt8) := .inl ⟨rfl, none, 0, rfl, fun _ => rfl⟩
theorem wds_nilW (w : World) : Wds w (.slice none 0 0) zeroM.u := ⟨none, 0, rfl, fun h => by simp [zeroM] at h⟩
theorem decPost_no {w w' : World} {s : List UInt8} (h : ∀ y : MS, y.m.h.length = 32 → bytesM y ≠ some s) (hb : Below w.heap.size w w') : decPostW w s (.returned (.tuple #[.agg (msA (kMs 0) (manL zeroM (.slice none 0 0)) (.slice none 0 0)), .int .i64 2])) w' :=
  ⟨kMs 0, none, 0, none, 0, 2, rfl, rfl, Nat.zero_le _, wds_nilW w', seg_nilW w', Nat.zero_le _, .inr ⟨rfl, rfl, h⟩, hb⟩
theorem bytesM_ne (y : MS) : bytesM y ≠ some [] := by
  unfold bytesM encW
  split
  · intro h; injection h with h; cases h
  · intro h; cases h
theorem encM_some {m : MM} {nb : List UInt8} (hm : okM m) (h : encTop manF (manVs m) = some nb) : (encM m).getD [] = nb := by
  unfold encM
  rw [if_pos hm, h]
  rfl
theorem ms_no64 (x : MS) (j : Nat) (z : Int) : (msA x (manL zeroM (.slice none 0 0)) (.slice none 0 0))[j]? ≠ some (.int .u64 z) := by
  intro h
  have hm : (Value.int .u64 z) ∈ msL x (manL zeroM (.slice none 0 0)) (.slice none 0 0) := by
    unfold msA at h
    rw [List.getElem?_toArray] at h
    exact List.mem_iff_getElem?.2 ⟨j, h⟩
  unfold msL manL zeroM at hm
  simp [v8] at hm
/-- The last value's bytes, when the result has been written. -/
theorem body_lateW {w3 w4 w9 : World} {lo R : Nat} {vv bv : Value} {xs : List Nat} {bo : Option (List UInt8)} {y : MS} (hvk : ValsK w3 (fun b => lo ≤ b) 4 vv (recV xs bo)) (hn : 0 < xs.length) (hR : R < lo) (hla : lastIs w3 vv bv) (hb : Below w3.heap.size w3 w4) (hg : w4.grownBy w9 (some R)) (hk : Blk w4 R 28 (msA y (manL zeroM (.slice none 0 0)) (.slice none 0 0))) : Seg w9 bv (bo.getD []) := by
  obtain ⟨b, off, n, c, rfl, hbl, hc⟩ := hla
  have hcell : ∀ q o, q ≠ R → q < w3.heap.size → w9.cell? ⟨q, o, none⟩ = w3.cell? ⟨q, o, none⟩ := fun q o hq hl => by
    have h1 : w4.cell? ⟨q, o, none⟩ = w3.cell? ⟨q, o, none⟩ := hb.cell (p := ⟨q, o, none⟩) hl
    rw [← h1]
    exact World.cell?_of_block (a := ⟨q, o, none⟩) (hg.block q (Nat.lt_of_lt_of_le hl hb.size) (fun e => hq (by cases e; rfl)))
  have hV4 := hvk w4 ⟨hb.size, fun q o _ hl => hb.cell (p := ⟨q, o, none⟩) hl⟩
  have hV9 := hvk w9 ⟨Nat.le_trans hb.size hg.size, fun q o hq hl => hcell q o (by omega) hl⟩
  obtain ⟨b4, off4, c4, e4, _, h4, _⟩ := vals_at hV4 hn
  obtain ⟨b9, off9, c9, e9, _, _, bv9, h9, hs9⟩ := vals_at hV9 hn
  have hb4 : b4 = b ∧ off4 = off := by injection e4 with e1 e2 e3; cases e1; exact ⟨rfl, rfl⟩
  have hb9 : b9 = b ∧ off9 = off ∧ (recV xs bo).length = n + 1 := by injection e9 with e1 e2 e3; cases e1; exact ⟨rfl, rfl, e2.symm⟩
  obtain ⟨rfl, rfl⟩ := hb4
  obtain ⟨rfl, rfl, hl⟩ := hb9
  have hne : b9 ≠ R := by
    intro e
    have h0 := (h4 0 _ (List.getElem?_eq_getElem hn)).1
    rw [e] at h0
    unfold Blk at hk
    simp [World.cell?, hk] at h0
    exact ms_no64 y _ _ h0
  rw [hl, hcell b9 _ hne hbl] at h9
  have h9 : w3.cell? ⟨b9, off9 + n * 3 + 1, none⟩ = some bv9 := h9
  rw [hc] at h9
  cases h9
  exact hs9
theorem inNs_le {C : Nat} : ∀ {ns : List (Nat × Nat)} {xs : List Nat}, inNs ns xs → (∀ n ∈ ns, n.2 ≤ C) → ∀ a ∈ xs, a ≤ C
  | [], [], _, _, a, ha => by cases ha
  | [], _ :: _, h, _, _, _ => h.elim
  | _ :: _, [], h, _, _, _ => h.elim
  | n :: ns, x :: xs, h, hc, a, ha => by
    rcases List.mem_cons.1 ha with rfl | ha
    · exact Nat.le_trans h.1.2 (hc n (by simp))
    · exact inNs_le h.2 (fun m hm => hc m (by simp [hm])) a ha
theorem numK_pos {k : Int} (h : (1 ≤ k ∧ k ≤ 8) ∧ k ≠ 3) : 0 < (numK k).length := by
  rcases kinds k with rfl | rfl | rfl | rfl | rfl | rfl | rfl | rfl | hk
  all_goals first | decide | omega | exact absurd rfl h.2
theorem inBs_len {k : Int} {bo : Option (List UInt8)} (h : inBs (mbK k) bo) : (bo.getD []).length ≤ 1024 ∧ (k = 2 → ∃ nb, bo = some nb) ∧ (k = 5 → ∃ nb, bo = some nb) ∧ (k ≠ 2 → k ≠ 5 → bo = none) := by
  unfold mbK at h
  split at h
  · rename_i h2
    cases bo with
    | none => exact h.elim
    | some nb => exact ⟨by have : nb.length ≤ 500 := h; show nb.length ≤ 1024; omega, fun _ => ⟨nb, rfl⟩, fun _ => ⟨nb, rfl⟩, fun e => absurd h2 e⟩
  · rename_i h2
    split at h
    · rename_i h5
      cases bo with
      | none => exact h.elim
      | some nb => exact ⟨h, fun _ => ⟨nb, rfl⟩, fun _ => ⟨nb, rfl⟩, fun _ e => absurd h5 e⟩
    · rename_i h5
      cases bo with
      | none => exact ⟨Nat.zero_le _, fun e => absurd e h2, fun e => absurd e h5, fun _ _ => rfl⟩
      | some nb => exact h.elim
set_option maxRecDepth 100000 in
set_option maxHeartbeats 8000000 in
theorem wdecode_any (bv : Value) (s : List UInt8) (w : World) (hS : Seg w bv s) (hl : s.length ≤ maxLen) : Calls Try.prog 12 #[bv] w fun e w' => decPostW w s e w' := by
  obtain ⟨MZ, hMZ⟩ : ∃ Z, Z = msA (kMs 0) (manL zeroM (.slice none 0 0)) (.slice none 0 0) := ⟨_, rfl⟩
  have HMZ : Hid (MZ = msA (kMs 0) (manL zeroM (.slice none 0 0)) (.slice none 0 0)) := hMZ
  have hz0 := zeroMess
  have hbz := built_mess0
  have hmn : ¬ MZ = #[] := fun e => by
    have h := msZ_size (kMs 0)
    rw [← hMZ, e] at h
    cases h
  have hzo : MZ.all (·.oneCell') = true := by rw [hMZ]; exact msZ_one _
  have hzi : (Try.prog.info? 28).map (·.size) = some MZ.size := by rw [hMZ, msZ_size]; exact info_mess
  rw [← hMZ] at hz0 hbz
  have hB0 := (Below.refl w.heap.size w).alloc (Nat.le_refl _) (.cells MZ 28)
  obtain ⟨R, hR⟩ : ∃ R, R = w.heap.size := ⟨_, rfl⟩
  have kR0 : Blk (w.alloc (.cells MZ 28)) R 28 MZ := Blk.newAt _ _ _ _ hR
  have HRW : Hid (w.heap.size ≤ R) := by show _ ≤ _; omega
  obtain ⟨ab, cp, rfl⟩ := hS.shapeD
  clear hMZ
  cases s with
  | nil =>
    subst hR
    go_enter Try.func12, Try.ntmps12
    go_wp2_with (refine store_blk rfl 28 _ _ rfl rfl w.heap.size (MZ) rfl rfl 28 MZ kR0 hzi rfl hzo ?_; intro w9 kR9 hg9 _)
    have hB9 : Below w.heap.size w w9 := below_grown hB0 hg9 hB0.size (fun q hq => by cases hq; exact HRW.out)
    refine bodyPost_ret (results_pairK Try.results12 _ _ w.heap.size 28 (MZ) (0, 0) _ _ rfl rfl kR9 Try.underlying28 rfl hzi) rfl ?_
    rw [HMZ.out]
    exact decPost_no (fun y _ => bytesM_ne y) hB9
  | cons h r =>
    have hrow := hS
    obtain ⟨g, o, rfl, hg, hgc, hrest, hcap⟩ : ∃ g o, ab = some ⟨g, o, none⟩ ∧ g < w.heap.size ∧ w.cell? ⟨g, o, none⟩ = some (.int .u8 (h.toNat : Int)) ∧ Seg w (.slice (restAt ab cp 1) ((h :: r).length - 1) (cp - 1)) r ∧ True := by
      have hd := hS.drops 1 (by simp)
      rcases hS with ⟨h0, _⟩ | ⟨b, off, c, e1, e2, e3, e4⟩
      · cases h0
      · cases e1
        exact ⟨b, off, rfl, e4, by have := e3 0 (by simp); exact this, hd, trivial⟩
    have HSL : Hid (∀ V, (Instr.slice 26 (.slice (some ⟨g, o, none⟩) (r.length + 1) cp) (some (.int .i64 1)) none none).run Try.prog V = .ok (.slice (restAt (some ⟨g, o, none⟩) cp 1) r.length (cp - 1)) V) := fun V => slice_rest (some ⟨g, o, none⟩) (r.length + 1) cp 1 (by omega) V
    have hrest : Seg w (.slice (restAt (some ⟨g, o, none⟩) cp 1) r.length (cp - 1)) r := hrest
    generalize restAt (some ⟨g, o, none⟩) cp 1 = RA at *
    generalize cp - 1 = RC at *
    have HIX : Hid (∀ V, (Instr.indexAt 26 (.slice (some ⟨g, o, none⟩) (r.length + 1) cp) (.int .i64 0)).run Try.prog V = .ok (.pointer (some ⟨g, o, none⟩)) V) := fun V => index_bW g o (r.length + 1) cp V (by omega)
    have h255 : h.toNat < 256 := UInt8.toNat_lt h
    have HCV : Hid (∀ V, (convert 5 3 (.int .u8 (h.toNat : Int))).run Try.prog V = .ok (.int .i64 (h.toNat : Int)) V) := fun V => conv_bW _ (by omega) (by omega) V
    have hS0 : (fun V : World => V.cell? ⟨g, o, none⟩ = some (.int .u8 (h.toNat : Int))) (w.alloc (.cells MZ 28)).drew := (hB0.cell (p := ⟨g, o, none⟩) hg).trans hgc
    have HRS : Hid (∀ V, Below w.heap.size w V → Seg V (.slice RA r.length RC) r) := fun V hV => hrest.below hV (Nat.le_refl _)
    have HML : Hid (r.length ≤ maxLen) := by have : (h :: r).length = r.length + 1 := rfl; show r.length ≤ maxLen; omega
    have hlen : (0 : Int) < (r.length : Int) + 1 := by omega
    clear hrow hS hgc hrest hcap hl hg
    go_enter Try.func12, Try.ntmps12
    go_wp2_with fail
    rw [← hR]
    clear hlen hR
    generalize w.alloc (.cells MZ 28) = W0 at *
    have kR1 := kR0.drew
    have hB1 := hB0.drew
    clear kR0 hB0
    refine held_begin (fun V => V.cell? ⟨g, o, none⟩ = some (.int .u8 (h.toNat : Int))) (by kernel_rfl) ?_
    refine held_take 0 12 _ (.slice (some ⟨g, o, none⟩) (r.length + 1) cp) rfl rfl (by kernel_rfl) (by kernel_rfl) (by kernel_rfl) rfl hS0 (fun _ _ => rfl) ?_
    simp only [Act.put, List.setIfInBounds_toArray, List.set_cons_succ, List.set_cons_zero]
    refine held_take 1 13 _ (.pointer (some ⟨g, o, none⟩)) rfl rfl (by kernel_rfl) (by kernel_rfl) (by kernel_rfl) rfl hS0 (fun V _ => exec_indexat 26 _ _ rfl (.slice (some ⟨g, o, none⟩) (r.length + 1) cp) (.int .i64 0) _ rfl rfl (HIX.out V)) ?_
    simp only [Act.put, List.setIfInBounds_toArray, List.set_cons_succ, List.set_cons_zero]
    refine held_take 2 14 _ (.int .u8 (h.toNat : Int)) rfl rfl (by kernel_rfl) (by kernel_rfl) (by kernel_rfl) rfl hS0 (fun V hV => exec_loadc 5 _ rfl _ _ rfl (load_one 5 (fun _ => by kernel_rfl) V _ _ _ hV)) ?_
    simp only [Act.put, List.setIfInBounds_toArray, List.set_cons_succ, List.set_cons_zero]
    refine held_take 3 15 _ (.int .i64 (h.toNat : Int)) rfl rfl (by kernel_rfl) (by kernel_rfl) (by kernel_rfl) rfl hS0 (fun V _ => exec_conv 5 3 _ rfl (.int .u8 (h.toNat : Int)) (.int .i64 (h.toNat : Int)) rfl (HCV.out V)) ?_
    simp only [Act.put, List.setIfInBounds_toArray, List.set_cons_succ, List.set_cons_zero]
    refine held_take 4 16 _ (.slice (some ⟨g, o, none⟩) (r.length + 1) cp) rfl rfl (by kernel_rfl) (by kernel_rfl) (by kernel_rfl) rfl hS0 (fun _ _ => rfl) ?_
    simp only [Act.put, List.setIfInBounds_toArray, List.set_cons_succ, List.set_cons_zero]
    refine held_take 5 17 _ (.slice RA r.length RC) rfl rfl (by kernel_rfl) (by kernel_rfl) (by kernel_rfl) rfl hS0 (fun V _ => exec_slW _ _ rfl (.slice (some ⟨g, o, none⟩) (r.length + 1) cp) (.int .i64 1) (.slice RA r.length RC) rfl rfl (HSL.out V)) ?_
    simp only [Act.put, List.setIfInBounds_toArray, List.set_cons_succ, List.set_cons_zero]
    refine held_take 6 4 _ (.int .i64 (h.toNat : Int)) rfl rfl (by kernel_rfl) (by kernel_rfl) (by kernel_rfl) rfl hS0 (fun _ _ => rfl) ?_
    simp only [Act.put, List.setIfInBounds_toArray, List.set_cons_succ, List.set_cons_zero]
    refine held_take 7 5 _ (.slice RA r.length RC) rfl rfl (by kernel_rfl) (by kernel_rfl) (by kernel_rfl) rfl hS0 (fun _ _ => rfl) ?_
    simp only [Act.put, List.setIfInBounds_toArray, List.set_cons_succ, List.set_cons_zero]
    refine wpAnyH_done (by kernel_rfl) ?_ _
    refine NoPanic.normal ?_
    clear hS0 HSL HIX HCV
    by_cases e3 : (h.toNat : Int) = 3 ∧ r = []
    · obtain ⟨e3, rfl⟩ := e3
      have d3 : ((h.toNat : Int) == 3) = true := beq_iff_eq.2 e3
      have HMK : Hid (MZ.setIfInBounds 0 (.int .i64 (h.toNat : Int)) = msA (kMs 3) (manL zeroM (.slice none 0 0)) (.slice none 0 0)) := by show _ = _; rw [HMZ.out, e3]; simp [msA, msL, kMs]
      have hmo : (MZ.setIfInBounds 0 (.int .i64 (h.toNat : Int))).all (·.oneCell') = true := by rw [HMK.out]; exact msZ_one _
      have hmi : (Try.prog.info? 28).map (·.size) = some (MZ.setIfInBounds 0 (.int .i64 (h.toNat : Int))).size := by rw [HMK.out, msZ_size]; exact info_mess
      have hms : MZ.size = (MZ.setIfInBounds 0 (.int .i64 (h.toNat : Int))).size := by simp
      have HH : Hid (h = 3) := by show h = 3; apply UInt8.toNat_inj.1; show h.toNat = 3; omega
      clear e3
      go_wp2_with (refine store_blk rfl 28 _ _ rfl rfl R (MZ.setIfInBounds 0 (.int .i64 (h.toNat : Int))) rfl rfl 28 MZ kR1 hmi hms hmo ?_; intro w9 kR9 hg9 _)
      have hB9 : Below w.heap.size w w9 := below_grown hB1 hg9 hB1.size (fun q hq => by cases hq; exact HRW.out)
      refine bodyPost_ret (results_pairK Try.results12 _ _ R 28 (MZ.setIfInBounds 0 (.int .i64 (h.toNat : Int))) (0, 0) _ _ rfl rfl kR9 Try.underlying28 rfl hmi) rfl ?_
      rw [HMK.out]
      refine ⟨kMs 3, none, 0, none, 0, 0, rfl, rfl, Nat.zero_le _, wds_nilW _, seg_nilW _, Nat.zero_le _, .inl ⟨rfl, ?_⟩, hB9⟩
      rw [HH.out]
      exact idle_bytes
    · have HE3 : Hid (¬ ((h.toNat : Int) = 3 ∧ r = [])) := e3
      by_cases e4 : (h.toNat : Int) = 3
      · have d3 : ((h.toNat : Int) == 3) = true := beq_iff_eq.2 e4
        have d4 : ((r.length : Int) == 0) = false := beq_eq_false_iff_ne.2 (fun h0 => e3 ⟨e4, List.eq_nil_of_length_eq_zero (by omega)⟩)
        have HE4 : Hid ((h.toNat : Int) = 3) := e4
        clear e3 e4
        go_wp2_with fail
        refine (mfields_any (h.toNat : Int) W0.drew).mono ?_
        rintro e w2 ⟨lv, rfl, hF2, hb2⟩
        have hB2 := hB1.trans (hb2.mono hB1.size)
        have kR2 := kR1.below hb2 kR1.lt
        have hs2 := HRS.out w2 hB2
        have HDC := decode_any 1 lv (recF (nsK (h.toNat : Int)) (mbK (h.toNat : Int))) _ r w2 hF2 hs2 HML.out
        obtain ⟨al, cl, e2, _, _⟩ := hF2.form
        subst e2
        clear hF2 hs2 hb2 hB1 kR1
        have hdt := no_rec (.inr HE4.out) r
        obtain ⟨n, hn⟩ : ∃ n : Int, n = 1 := ⟨_, rfl⟩
        rw [← hn] at hdt
        clear hn
        obtain dc : (n == (0 : Int)) = false := by rcases rec_code hdt with rfl | rfl <;> rfl
        have HNO : Hid (∀ y : MS, y.m.h.length = 32 → bytesM y ≠ some (h :: r)) := not_rec HE3.out hdt
        rw [hdt] at HDC
        have HDC : Hid (Calls Try.prog 27 #[.slice al (recF (nsK (h.toNat : Int)) (mbK (h.toNat : Int))).length cl, .slice RA r.length RC] w2 fun e w' => e = .returned (.tuple #[.slice none 0 0, .int .i64 n]) ∧ Below w2.heap.size w2 w') := HDC
        clear hdt
        go_wp2_with fail
        refine HDC.out.mono ?_
        rintro e w3 ⟨rfl, hb3⟩
        have hB3 := hB2.trans (hb3.mono hB2.size)
        have kR3 := kR2.below hb3 kR2.lt
        clear hb3 hB2 kR2 HDC
        go_wp2_with (refine store_blk rfl 28 _ _ rfl rfl R (MZ) rfl rfl 28 MZ kR3 hzi rfl hzo ?_; intro w9 kR9 hg9 _)
        have hB9 : Below w.heap.size w w9 := below_grown hB3 hg9 hB3.size (fun q hq => by cases hq; exact HRW.out)
        refine bodyPost_ret (results_pairK Try.results12 _ _ R 28 (MZ) (0, 0) _ _ rfl rfl kR9 Try.underlying28 rfl hzi) rfl ?_
        rw [HMZ.out]
        exact decPost_no HNO.out hB9
      · have d3 : ((h.toNat : Int) == 3) = false := beq_eq_false_iff_ne.2 e4
        clear e3 e4
        go_wp2_with fail
        refine (mfields_any (h.toNat : Int) W0.drew).mono ?_
        rintro e w2 ⟨lv, rfl, hF2, hb2⟩
        have hB2 := hB1.trans (hb2.mono hB1.size)
        have kR2 := kR1.below hb2 kR1.lt
        have hs2 := HRS.out w2 hB2
        have HDC := decode_any 1 lv (recF (nsK (h.toNat : Int)) (mbK (h.toNat : Int))) _ r w2 hF2 hs2 HML.out
        obtain ⟨al, cl, e2, _, _⟩ := hF2.form
        subst e2
        clear hF2 hs2 hb2 hB1 kR1
        cases hdt : decTop (recF (nsK (h.toNat : Int)) (mbK (h.toNat : Int))) r with
        | error n =>
          obtain dc : (n == (0 : Int)) = false := by rcases rec_code hdt with rfl | rfl <;> rfl
          have HNO : Hid (∀ y : MS, y.m.h.length = 32 → bytesM y ≠ some (h :: r)) := not_rec HE3.out hdt
          rw [hdt] at HDC
          have HDC : Hid (Calls Try.prog 27 #[.slice al (recF (nsK (h.toNat : Int)) (mbK (h.toNat : Int))).length cl, .slice RA r.length RC] w2 fun e w' => e = .returned (.tuple #[.slice none 0 0, .int .i64 n]) ∧ Below w2.heap.size w2 w') := HDC
          clear hdt
          go_wp2_with fail
          refine HDC.out.mono ?_
          rintro e w3 ⟨rfl, hb3⟩
          have hB3 := hB2.trans (hb3.mono hB2.size)
          have kR3 := kR2.below hb3 kR2.lt
          clear hb3 hB2 kR2 HDC
          go_wp2_with (refine store_blk rfl 28 _ _ rfl rfl R (MZ) rfl rfl 28 MZ kR3 hzi rfl hzo ?_; intro w9 kR9 hg9 _)
          have hB9 : Below w.heap.size w w9 := below_grown hB3 hg9 hB3.size (fun q hq => by cases hq; exact HRW.out)
          refine bodyPost_ret (results_pairK Try.results12 _ _ R 28 (MZ) (0, 0) _ _ rfl rfl kR9 Try.underlying28 rfl hzi) rfl ?_
          rw [HMZ.out]
          exact decPost_no HNO.out hB9
        | ok v =>
          have hkd := rec_kind hdt
          obtain ⟨xs, bo, rfl, hx, hb, he⟩ := (rec_okK hkd.1.1 hkd.1.2 hkd.2).dec hdt
          obtain ⟨hbl, hb2, hb5, hb0⟩ := inBs_len hb
          have hnl : (numK (h.toNat : Int)).length = xs.length := by rw [inNs_len hx]; unfold nsK; rw [List.length_map]
          have hxp : 0 < xs.length := by rw [← hnl]; exact numK_pos hkd
          have hxc : ∀ a ∈ xs, a ≤ 1073741824 := inNs_le hx (fun n hn => by
            unfold nsK at hn
            obtain ⟨m, hm, rfl⟩ := List.mem_map.1 hn
            exact (numK_at hm).2.2)
          have HBT : Hid (∀ (m : MM) (b : List UInt8), tailOk (h.toNat : Int) m b → boK (outMs (h.toNat : Int) xs m b) ((encM m).getD []) = bo → bytesM (outMs (h.toNat : Int) xs m b) = some (h :: r)) := fun m b ht hbo => outMs_bytes hkd.1.1 hkd.1.2 hkd.2 hx ht hbo he
          have HNM : Hid ((h.toNat : Int) = 2 → (∀ m : MM, okM m → encTop manF (manVs m) ≠ some (bo.getD [])) → ∀ y : MS, y.m.h.length = 32 → bytesM y ≠ some (h :: r)) := fun e2 hm => by
            obtain ⟨nb, rfl⟩ := hb2 e2
            exact not_man e2 hx hdt hm
          have HB0 : Hid (((h.toNat : Int) = 2 → ∃ nb, bo = some nb) ∧ ((h.toNat : Int) = 5 → ∃ nb, bo = some nb) ∧ ((h.toNat : Int) ≠ 2 → (h.toNat : Int) ≠ 5 → bo = none) ∧ (bo.getD []).length ≤ 1024) := ⟨hb2, hb5, hb0, hbl⟩
          have HXP : Hid (0 < xs.length ∧ (numK (h.toNat : Int)).length = xs.length ∧ (∀ a ∈ xs, a ≤ 1073741824) ∧ (bo.getD []).length ≤ maxLen) := ⟨hxp, hnl, hxc, by unfold maxLen; omega⟩
          rw [hdt] at HDC
          have HDC : Hid (Calls Try.prog 27 #[.slice al (recF (nsK (h.toNat : Int)) (mbK (h.toNat : Int))).length cl, .slice RA r.length RC] w2 fun e w' => (∃ val, e = .returned (.tuple #[val, .int .i64 0]) ∧ ValsK w' (fun b => w2.heap.size ≤ b) 4 val (recV xs bo)) ∧ Below w2.heap.size w2 w') := HDC
          clear hdt hx hb he hbl hb2 hb5 hb0 hnl hxp hxc hkd
          go_wp2_with fail
          refine HDC.out.mono ?_
          rintro e w3 ⟨⟨val, rfl, hvk⟩, hb3⟩
          have HR2 : Hid (R < w2.heap.size) := kR2.lt
          have hB3 := hB2.trans (hb3.mono hB2.size)
          have kR3 := kR2.below hb3 kR2.lt
          have hV3 : Vals w3 4 val (recV xs bo) := hvk w3 (Agree.refl _ _)
          have HVK : Hid (ValsK w3 (fun b => w2.heap.size ≤ b) 4 val (recV xs bo)) := hvk
          have HMS := mesOf_any (h.toNat : Int) val xs bo w3 hV3 HXP.out.1 HXP.out.2.1 HXP.out.2.2.1 HXP.out.2.2.2
          obtain ⟨av, cv, ev, _, _⟩ := hV3.form
          subst ev
          clear hb3 hB2 kR2 HDC hvk hV3
          go_wp2_with fail
          refine HMS.mono ?_
          rintro e w4 ⟨hm, hb4⟩
          have hB4 := hB3.trans (hb4.mono hB3.size)
          have kR4 := kR3.below hb4 kR3.lt
          have HB34 : Hid (Below w3.heap.size w3 w4) := hb4
          clear hb4 hB3 kR3 HMS
          rcases hm with ⟨e2, M, su, er, hdi, ⟨rfl, rfl⟩ | ⟨rfl, rfl⟩⟩ | ⟨e5, ab2, cb2, hsb, hla, rfl⟩ | ⟨⟨e2, e5⟩, rfl⟩
          · have HD : Hid (decIs w4 (bo.getD []) M su 0) := hdi
            have HE : Hid ((h.toNat : Int) = 2) := e2
            obtain ⟨hh, _, ⟨am, cm, hsu, _⟩, _⟩ := hdi
            subst hsu
            have hmi := ms_info (setL (numK (h.toNat : Int)) xs (kMs (h.toNat : Int))) (manL M (.slice am M.u.length cm)) (.slice none 0 0) (manL_len _ _ hh)
            have hms : MZ.size = (msA (setL (numK (h.toNat : Int)) xs (kMs (h.toNat : Int))) (manL M (.slice am M.u.length cm)) (.slice none 0 0)).size := by rw [HMZ.out, msZ_size, msA_size _ _ _ (manL_len _ _ hh)]
            have hmo := msA_one (setL (numK (h.toNat : Int)) xs (kMs (h.toNat : Int))) (manL M (.slice am M.u.length cm)) (.slice none 0 0) (manL_one M am _ cm) rfl
            clear e2 hh
            go_wp2_with (refine store_blk rfl 28 _ _ rfl rfl R (msA (setL (numK (h.toNat : Int)) xs (kMs (h.toNat : Int))) (manL M (.slice am M.u.length cm)) (.slice none 0 0)) rfl rfl 28 MZ kR4 hmi hms hmo ?_; intro w9 kR9 hg9 _)
            have hB9 : Below w.heap.size w w9 := below_grown hB4 hg9 hB4.size (fun q hq => by cases hq; exact HRW.out)
            refine bodyPost_ret (results_pairK Try.results12 _ _ R 28 (msA (setL (numK (h.toNat : Int)) xs (kMs (h.toNat : Int))) (manL M (.slice am M.u.length cm)) (.slice none 0 0)) (0, 0) _ _ rfl rfl kR9 Try.underlying28 rfl hmi) rfl ?_
            have hD9 := decIs_grown HD.out (kR4.of_eq HMZ.out) hg9
            obtain ⟨hh, hu, hw, her⟩ := hD9
            have hok : okM M ∧ encTop manF (manVs M) = some (bo.getD []) := by
              rcases her with ⟨_, h1, h2⟩ | ⟨h1, _⟩
              · exact ⟨h1, h2⟩
              · cases h1
            refine ⟨outMs (h.toNat : Int) xs M [], am, cm, none, 0, 0, rfl, hh, hu, hw, seg_nilW _, Nat.zero_le _, .inl ⟨rfl, HBT.out M [] ⟨fun _ => ⟨hok.1, rfl⟩, fun e => ?_, fun e => absurd HE.out e⟩ ?_⟩, hB9⟩
            · have := HE.out; omega
            · obtain ⟨nb, hnb⟩ := HB0.out.1 HE.out
              unfold boK
              rw [outMs_k, if_pos HE.out, encM_some hok.1 hok.2, hnb]
              rfl
          · have HD : Hid (decIs w4 (bo.getD []) M su 2) := hdi
            have HE : Hid ((h.toNat : Int) = 2) := e2
            rw [← HMZ.out]
            clear e2 hdi
            go_wp2_with (refine store_blk rfl 28 _ _ rfl rfl R (MZ) rfl rfl 28 MZ kR4 hzi rfl hzo ?_; intro w9 kR9 hg9 _)
            have hB9 : Below w.heap.size w w9 := below_grown hB4 hg9 hB4.size (fun q hq => by cases hq; exact HRW.out)
            refine bodyPost_ret (results_pairK Try.results12 _ _ R 28 (MZ) (0, 0) _ _ rfl rfl kR9 Try.underlying28 rfl hzi) rfl ?_
            rw [HMZ.out]
            refine decPost_no (HNM.out HE.out ?_) hB9
            obtain ⟨_, _, _, her⟩ := HD.out
            rcases her with ⟨h1, _⟩ | ⟨_, _, _, h2⟩
            · cases h1
            · exact h2
          · have HE : Hid ((h.toNat : Int) = 5) := e5
            have HLA : Hid (lastIs w3 (.slice av (recV xs bo).length cv) (.slice ab2 (bo.getD []).length cb2)) := hla
            have hmi := ms_info (setL (numK (h.toNat : Int)) xs (kMs (h.toNat : Int))) (manL zeroM (.slice none 0 0)) (.slice ab2 (bo.getD []).length cb2) rfl
            have hms : MZ.size = (msA (setL (numK (h.toNat : Int)) xs (kMs (h.toNat : Int))) (manL zeroM (.slice none 0 0)) (.slice ab2 (bo.getD []).length cb2)).size := by rw [HMZ.out, msZ_size, msA_size _ _ _ rfl]
            have hmo := msA_one (setL (numK (h.toNat : Int)) xs (kMs (h.toNat : Int))) (manL zeroM (.slice none 0 0)) (.slice ab2 (bo.getD []).length cb2) (manL_one zeroM none 0 0) rfl
            clear e5 hsb hla
            go_wp2_with (refine store_blk rfl 28 _ _ rfl rfl R (msA (setL (numK (h.toNat : Int)) xs (kMs (h.toNat : Int))) (manL zeroM (.slice none 0 0)) (.slice ab2 (bo.getD []).length cb2)) rfl rfl 28 MZ kR4 hmi hms hmo ?_; intro w9 kR9 hg9 _)
            have hB9 : Below w.heap.size w w9 := below_grown hB4 hg9 hB4.size (fun q hq => by cases hq; exact HRW.out)
            refine bodyPost_ret (results_pairK Try.results12 _ _ R 28 (msA (setL (numK (h.toNat : Int)) xs (kMs (h.toNat : Int))) (manL zeroM (.slice none 0 0)) (.slice ab2 (bo.getD []).length cb2)) (0, 0) _ _ rfl rfl kR9 Try.underlying28 rfl hmi) rfl ?_
            have hS9 := body_lateW HVK.out HXP.out.1 HR2.out HLA.out HB34.out hg9 (kR4.of_eq HMZ.out)
            refine ⟨outMs (h.toNat : Int) xs zeroM (bo.getD []), none, 0, ab2, cb2, 0, rfl, rfl, Nat.zero_le _, wds_nilW _, hS9, HXP.out.2.2.2, .inl ⟨rfl, HBT.out zeroM (bo.getD []) ⟨fun e => ?_, fun _ => ⟨rfl, HB0.out.2.2.2⟩, fun _ e => absurd HE.out e⟩ ?_⟩, hB9⟩
            · have := HE.out; omega
            · obtain ⟨nb, hnb⟩ := HB0.out.2.1 HE.out
              have h5 := HE.out
              unfold boK
              rw [outMs_k, if_neg (by omega), if_pos h5, hnb]
              rfl
          · have HE : Hid ((h.toNat : Int) ≠ 2 ∧ (h.toNat : Int) ≠ 5) := ⟨e2, e5⟩
            have hmi := ms_info (setL (numK (h.toNat : Int)) xs (kMs (h.toNat : Int))) (manL zeroM (.slice none 0 0)) (.slice none 0 0) rfl
            have hms : MZ.size = (msA (setL (numK (h.toNat : Int)) xs (kMs (h.toNat : Int))) (manL zeroM (.slice none 0 0)) (.slice none 0 0)).size := by rw [HMZ.out, msZ_size, msZ_size]
            have hmo := msZ_one (setL (numK (h.toNat : Int)) xs (kMs (h.toNat : Int)))
            clear e2 e5
            go_wp2_with (refine store_blk rfl 28 _ _ rfl rfl R (msA (setL (numK (h.toNat : Int)) xs (kMs (h.toNat : Int))) (manL zeroM (.slice none 0 0)) (.slice none 0 0)) rfl rfl 28 MZ kR4 hmi hms hmo ?_; intro w9 kR9 hg9 _)
            have hB9 : Below w.heap.size w w9 := below_grown hB4 hg9 hB4.size (fun q hq => by cases hq; exact HRW.out)
            refine bodyPost_ret (results_pairK Try.results12 _ _ R 28 (msA (setL (numK (h.toNat : Int)) xs (kMs (h.toNat : Int))) (manL zeroM (.slice none 0 0)) (.slice none 0 0)) (0, 0) _ _ rfl rfl kR9 Try.underlying28 rfl hmi) rfl ?_
            refine ⟨outMs (h.toNat : Int) xs zeroM [], none, 0, none, 0, 0, rfl, rfl, Nat.zero_le _, wds_nilW _, seg_nilW _, Nat.zero_le _, .inl ⟨rfl, HBT.out zeroM [] ⟨fun e => absurd e HE.out.1, fun e => absurd e HE.out.2, fun _ _ => ⟨rfl, rfl⟩⟩ ?_⟩, hB9⟩
            unfold boK
            rw [outMs_k, if_neg HE.out.1, if_neg HE.out.2, HB0.out.2.2.1 HE.out.1 HE.out.2]
end Go.Proofs.Ytgfcindkfnjeoaa
