/-
  What is proved here: the program's disk: reading a sector.
  Conditions: the disk lies in memory.
-/
import Derived.Test.YtojgeahablphbaaJPDiskPlan
namespace Go.Proofs.Ytojgeahablphbaa
open Go.RowKit Go.Maps

theorem secC_size (bs : List UInt8) (h : bs.length = 128) : (secC bs).size = 128 := by unfold secC; simp [h]
theorem secC_one (bs : List UInt8) : (secC bs).all (·.oneCell') = true := one8 bs
theorem Try.info60s : (Try.prog.info? 60).map (·.size) = some 128 := by kernel_rfl
/-- What the map answers to a number. -/
def lookS (s : DS) (k : Nat) : List UInt8 := if s.dirt.getD k false then s.now.getD k [] else noughts 128
theorem lookS_len {s : DS} {n k : Nat} (h : s.ok n) (hk : k < n) : (lookS s k).length = 128 := by
  unfold lookS
  split
  · exact getD_len h.nows (by rw [h.now]; exact hk)
  · exact noughts_length _
theorem look_val {s : DS} {D : DataW Unit} (hH : Holds5 D s) (k : Nat) {v : Value} {ps : List MemPlace} (hv : secR v = some (D.atKey (.int .i64 (k : Int)) (.lit (.string (noughts 128))), ps)) : v = secV (lookS s k) := by
  obtain ⟨bs, _, rfl, hz⟩ := secR_inv hv
  have hz1 := congrArg Prod.fst hz
  simp only at hz1
  unfold lookS
  cases hd : s.dirt.getD k false with
  | true =>
    rw [hH.is k (dirt_some hd)] at hz1
    injection hz1 with hz1
    injection hz1 with hz1
    rw [if_pos rfl, hz1]
  | false =>
    rw [atKey_of_not_has (by rw [hH.has, dirtB_nat]; exact hd)] at hz1
    injection hz1 with hz1
    injection hz1 with hz1
    rw [if_neg (by simp), hz1]
theorem look_ok5 {w : World} {b m : Nat} {D : DataW Unit} {s : DS} (hown : w.ownsMap Try.prog 3 secR b m D) (hH : Holds5 D s) (k : Nat) (hk : k ≤ 4096) :
    (Instr.lookup 50 (.map (some b)) (.int .i64 (k : Int)) true).run Try.prog w = .ok (.tuple #[.agg (secC (lookS s k)), .bool (s.dirt.getD k false)]) w := by
  obtain ⟨v, ps, hrun, hv⟩ := hown.look_ok keyI Try.underlying50 (zeroSec w) (secR_mk _ (noughts_length _)) (key_int (k : Int) (by omega) (by omega))
  rw [hrun, hH.has, dirtB_nat, look_val hH k hv]; rfl
theorem look5 {w : World} {b m : Nat} {D : DataW Unit} {s : DS} (hown : w.ownsMap Try.prog 3 secR b m D) (hH : Holds5 D s) (k : Nat) (hk : k ≤ 4096) :
    (Instr.lookup 50 (.map (some b)) (.int .i64 (k : Int)) false).run Try.prog w = .ok (.agg (secC (lookS s k))) w := by
  obtain ⟨v, ps, hrun, hv⟩ := hown.lookup keyI Try.underlying50 (zeroSec w) (secR_mk _ (noughts_length _)) (key_int (k : Int) (by omega) (by omega))
  rw [hrun, look_val hH k hv]; rfl
/-- A sector in the row of the synced ones. -/
theorem sec_range {w : World} {b : Nat} {rs : List (List UInt8)} (h : Blk w b 60 (flatV rs)) (hr : ∀ r ∈ rs, r.length = 128) {k : Nat} (hk : k < rs.length) : w.rangeAt b (128 * k) (secC (rs.getD k [])).toList := by
  refine h.range (128 * k) _ (fun j v hv => ?_)
  have hl := getD_len hr hk
  have hj : j < 128 := by
    rcases Nat.lt_or_ge j 128 with h | h
    · exact h
    · rw [List.getElem?_eq_none (by unfold secC; rw [List.toList_toArray, List.length_map, hl]; exact h)] at hv; cases hv
  have := flat_at hr k j hk hj
  unfold flatV
  unfold secC at hv
  rw [List.getElem?_toArray, List.getElem?_map, this]
  simpa using hv
theorem index_sec (b n k : Nat) (w : World) (h : k < n) : (Instr.indexAt 49 (.slice (some ⟨b, 0, none⟩) n n) (.int .i64 (k : Int))).run Try.prog w = .ok (.pointer (some ⟨b, 128 * k, none⟩)) w := by
  have hs : ∀ w, (sizeOf 60).run Try.prog w = .ok 128 w := fun w => by kernel_rfl
  have hi : (0 : Int) ≤ (k : Int) ∧ (k : Int) < (n : Int) := by omega
  simp [Instr.indexAt, asIntOf, run_underlying Try.underlying49, hs, hi, Addr.add_mid]
  rw [if_pos h, Nat.mul_comm]
theorem clone_sec (bs : List UInt8) (hl : bs.length = 128) (W : World) (g : Nat) (h1 : Blk W g 60 (secC bs)) :
    Calls Try.prog 60 #[.slice (some ⟨g, 0, none⟩) 128 128] W fun e w' => ∃ v, e = .returned v ∧ Own w' W.heap.size v bs ∧ Below W.heap.size W w' :=
  clone_anyD (.slice (some ⟨g, 0, none⟩) 128 128) bs W (by omega) (Seg.of_row (Blk.row h1) hl (Nat.le_refl _) h1.lt)

set_option maxRecDepth 100000 in
set_option maxHeartbeats 1000000 in
theorem read_any (L : PLay) (s : DS) (k : Int) (w : World) (hD : PDisk w L s) :
    Calls Try.prog 57 #[.pointer (some ⟨L.g, 0, none⟩), .int .i64 k] w fun e w' => ∃ v, e = .returned (.tuple #[v, .int .i64 (readS s k).2]) ∧ Own w' w.heap.size v (readS s k).1 ∧ Below w.heap.size w w' := by
  obtain ⟨xv, hx, hx2⟩ := hD.head
  have hnl := hD.ok.now
  unfold PLay.head at hx
  have c3 := hx.cell (j := 3) rfl
  obtain ⟨R, hR⟩ : ∃ R, R = readS s k := ⟨_, rfl⟩
  rw [← hR]
  unfold readS at hR
  have HH : Hid (Calls Try.prog 16 #[.pointer (some ⟨L.g, 0, none⟩), .int .i64 k] w fun e w' => e = .returned (.bool (hasB L.n k)) ∧ w' = w) := has_any L s k w hD
  cases hd : s.down with
  | true =>
    rw [hd] at c3 hR
    have HR : Hid (R = ([], 7)) := hR
    clear hR hd
    go_enter Try.func57, Try.ntmps57
    go_wp2_with fail
    go_ret2
    rw [HR.out]
    exact ⟨_, rfl, ⟨rfl, .inl ⟨rfl, rfl⟩⟩, Below.refl _ _⟩
  | false =>
    rw [hd] at c3 hR
    rw [hnl] at hR
    by_cases hk : k < 0 ∨ (L.n : Int) ≤ k
    · have HR : Hid (R = ([], 1)) := by show _ = _; rw [hR, if_pos hk]; rfl
      have hb : hasB L.n k = false := by unfold hasB; rcases hk with h | h <;> simp <;> omega
      rw [hb] at HH
      clear hR hd hk hb
      go_enter Try.func57, Try.ntmps57
      go_wp2_with (go_at_call 16; refine HH.out.mono ?_; rintro e w1 ⟨rfl, rfl⟩)
      go_ret2
      rw [HR.out]
      exact ⟨_, rfl, ⟨rfl, .inl ⟨rfl, rfl⟩⟩, Below.refl _ _⟩
    · obtain ⟨m, rfl⟩ : ∃ m : Nat, k = (m : Int) := ⟨k.toNat, by omega⟩
      have HR : Hid (R = (s.now.getD m [], 0)) := by show _ = _; rw [hR, if_neg hk]; rfl
      have hb : hasB L.n (m : Int) = true := by unfold hasB; simp; omega
      rw [hb] at HH
      have hmn : m < L.n := by omega
      have hmx := hD.lay.max
      obtain ⟨mm, D, hown, hH⟩ := hD.map
      have hlk := look_ok5 hown hH m (by omega)
      have c0 := hx.cell (j := 0) rfl
      have c1 := hx.cell (j := 1) rfl
      have hal := zeroSec
      have hll := lookS_len hD.ok hmn
      have HS1 : Hid ((secC (noughts 128)).size = (secC (lookS s m)).size) := (secC_size _ (noughts_length _)).trans (secC_size _ hll).symm
      have hrow := sec_range hD.sure hD.ok.sures (k := m) (by rw [hD.ok.sure]; exact hmn)
      have hcl : s.dirt.getD m false = false → s.now.getD m [] = s.sure.getD m [] := fun h => by
        refine hD.clean m ?_
        rw [List.getD_eq_getElem?_getD] at h
        rw [List.getElem?_eq_getElem (by rw [hD.ok.dirt]; exact hmn)] at h ⊢
        simpa using h
      have hdy : s.dirt.getD m false = true → lookS s m = s.now.getD m [] := fun h => by unfold lookS; rw [if_pos h]
      have hi := Try.info60s
      have hix := fun w => index_sec L.bs L.n m w hmn
      have l0 := hx.lt
      have l1 : L.g ≠ w.heap.size := by omega
      clear hR hd hk hb
      cases hdm : s.dirt.getD m false with
      | true =>
        have HE : Hid (lookS s m = s.now.getD m []) := hdy hdm
        rw [hdm] at hlk
        clear hdy hcl hdm
        generalize lookS s m = BS at *
        go_enter Try.func57, Try.ntmps57
        go_wp2_with (first | (go_at_call 16; refine HH.out.mono ?_; rintro e w1 ⟨rfl, rfl⟩) | (go_at_call 60; refine (clone_sec BS hll _ _ hb3).mono ?_; rintro e w4 ⟨v4, rfl, ho4, hB4⟩) | (refine store_blk rfl 60 _ _ rfl rfl w1.heap.size (secC BS) rfl rfl 60 _ (by exact Blk.new _ _ _) (by rw [HS1.out.symm]; exact hi) HS1.out (secC_one _) ?_; intro w3 hb3 hg3 hs3))
        go_ret2
        rw [HR.out, ← HE.out]
        have hB3 : Below w1.heap.size w1 w3 := below_grown ((Below.refl w1.heap.size w1).alloc (Nat.le_refl _) _) hg3 (by simp) (fun q hq => by have h2 : w1.heap.size = q := Option.some.inj hq; omega)
        exact ⟨_, rfl, ho4.mono hB3.size, hB3.trans (hB4.mono hB3.size)⟩
      | false =>
        have HE : Hid (s.now.getD m [] = s.sure.getD m []) := hcl hdm
        have hsl : (s.sure.getD m []).length = 128 := getD_len hD.ok.sures (by rw [hD.ok.sure]; exact hmn)
        have HS2 : Hid ((secC (lookS s m)).size = (secC (s.sure.getD m [])).size) := (secC_size _ hll).trans (secC_size _ hsl).symm
        rw [hdm] at hlk
        clear hdy hcl hdm
        generalize lookS s m = BS at *
        obtain ⟨SS, hSS⟩ : ∃ SS, SS = s.sure.getD m [] := ⟨_, rfl⟩
        rw [← hSS] at HE hsl HS2
        have HSS : Hid (s.sure.getD m [] = SS) := hSS.symm
        clear hSS
        have hiS : (Try.prog.info? 60).map (·.size) = some (secC SS).toList.length := by rw [Array.length_toList, secC_size _ hsl]; exact hi
        have tok1 : True := trivial
        have tok2 : True := trivial
        go_enter Try.func57, Try.ntmps57
        go_wp2_with (first | (go_at_call 16; refine HH.out.mono ?_; rintro e w1 ⟨rfl, rfl⟩) | (go_at_call 60; refine (clone_sec SS hsl _ _ hb4).mono ?_; rintro e w5 ⟨v5, rfl, ho5, hB5⟩) | (have _t := tok1; refine store_blk rfl 60 _ _ rfl rfl w1.heap.size (secC BS) rfl rfl 60 _ (by exact Blk.new _ _ _) (by rw [HS1.out.symm]; exact hi) HS1.out (secC_one _) ?_; intro w3 hb3 hg3 hs3; clear tok1; have hB3 := below_grown ((Below.refl w1.heap.size w1).alloc (Nat.le_refl _) _) hg3 (by simp) (fun q hq => by have h2 : w1.heap.size = q := Option.some.inj hq; omega); have d0 := (hx.below hB3 l0).cell (j := 0) rfl; have hrow3 := sec_range (hD.sure.below hB3 hD.sure.lt) hD.ok.sures (k := m) (by rw [hD.ok.sure]; exact hmn)) | (refine wpList_load_mid rfl 60 _ rfl L.bs (128 * m) rfl (secC SS).toList _ (HSS.out ▸ hrow3) Try.underlying60 rfl hiS ?_) | (have _t := tok2; refine store_blk rfl 60 _ _ rfl rfl w1.heap.size (secC SS) rfl rfl 60 _ (by exact hb3) (by rw [HS2.out.symm, HS1.out.symm]; exact hi) HS2.out (secC_one _) ?_; intro w4 hb4 hg4 hs4; clear tok2))
        go_ret2
        rw [HR.out, HE.out]
        have hB4 : Below w1.heap.size w1 w4 := below_grown hB3 hg4 hB3.size (fun q hq => by have h2 : w1.heap.size = q := Option.some.inj hq; omega)
        exact ⟨_, rfl, ho5.mono hB4.size, hB4.trans (hB5.mono hB4.size)⟩
end Go.Proofs.Ytojgeahablphbaa
