/-
  What is proved here: of all bytes, places and turns, the statement ShaTurned answers true: sha.Sum tells two texts apart just where the document's hash does.
  Conditions: the variables firstWords and roundWords hold the words of SHA-256.
-/
import Derived.Test.YthipmajgmneopaaDoorShaAwake
import Derived.Test.YthipmajgmneopaaDoorRefSum
import Derived.Stop.BytesEq
namespace Go.Proofs.YthipmajgmneopaaDoor
open Go.RowKit

theorem xor8 (a b : UInt8) : bits .xor .u8 (n8 a) (n8 b) = n8 (a ^^^ b) := by
  show IntKind.u8.wrap ((BitVec.ofInt 8 (a.toNat : Int) ^^^ BitVec.ofInt 8 (b.toNat : Int)).toNat : Int) = _
  have h : ∀ x : UInt8, BitVec.ofInt 8 (x.toNat : Int) = x.toBitVec := fun x => by
    rw [BitVec.ofInt_natCast]; exact BitVec.eq_of_toNat_eq (by simp)
  rw [h, h, wrap_u8_nat]
  show _ = (((a ^^^ b).toNat : Nat) : Int)
  rw [UInt8.toNat_xor, BitVec.toNat_xor]
  have h1 := a.toNat_lt
  have h2 := b.toNat_lt
  exact congrArg (fun n : Nat => (n : Int)) (Nat.mod_eq_of_lt (Nat.xor_lt_two_pow (n := 8) h1 h2))
theorem Own.set {w : World} {base g n c : Nat} {bs : List UInt8} (h : Own w base (.slice (some ⟨g, 0, none⟩) n c) bs) (i : Nat) (y : UInt8) :
    Row (w.setCell ⟨g, i, none⟩ (v8 y)) g 0 (bs.set i y) ∧ w.frozen? ⟨g, i, none⟩ = false := by
  rcases h.2 with ⟨h1, _⟩ | ⟨g', cap, cur, h1, h2, h3, h4, h5, h6, h7⟩
  · cases h1
  · cases h1
    have hb : Blk w g 5 cur := h3
    refine ⟨fun j hj => ?_, hb.frozen i⟩
    have hj' : j < bs.length := by simpa using hj
    have hcur : cur[j]? = some (v8 bs[j]) := by
      have := congrArg (fun l => l[j]?) h7
      simp [hj'] at this
      simpa using this
    rw [Nat.zero_add, (hb.set i (v8 y)).cell (v := v8 ((bs.set i y)[j])) ?_]
    rw [Array.getElem?_setIfInBounds, List.getElem_set]
    by_cases he : i = j
    · subst he
      have : i < cur.size := (Array.getElem?_eq_some_iff.1 hcur).1
      simp [this]
    · simp [he, hcur]

set_option maxRecDepth 100000 in
set_option maxHeartbeats 1000000 in
theorem shaTurned_any (x : Value) (bs : List UInt8) (ao : Option Addr) (len c : Nat) (at_ : Int) (t : UInt8) (w : World) (hx : x = .slice ao len c) (hl : bs.length = len) (hm : len ≤ maxLen) (hat : at_ ≤ 9223372036854775807) (hseg : Seg w x bs) (hgf : 0 < w.heap.size) (hf : Tab w 0 (St.start.list.map v32)) (hgk : 1 < w.heap.size) (hk : Tab w 1 (kWords.map v32)) :
    Calls Tryd.prog 6 #[x, .int .i64 at_, .int .u8 (n8 t)] w fun e w' => e = .returned (.bool true) ∧ Below w.heap.size w w' := by
  subst hx
  unfold maxLen at hm
  by_cases hz : len = 0
  · have h0 : ((len : Int) == 0) = true := by simp [hz]
    go_enter Tryd.func6, Tryd.ntmps6
    go_wp2_with (go_at_call 9; refine (awake_any _ hgf hf hgk hk).mono ?_; rintro e w1 ⟨rfl, hb1⟩)
    all_goals (go_ret; exact ⟨rfl, hb1⟩)
  have h0 : ((len : Int) == 0) = false := by simp [hz]
  by_cases hbig : 10000 < len
  · go_enter Tryd.func6, Tryd.ntmps6
    go_wp2_with (go_at_call 9; refine (awake_any _ hgf hf hgk hk).mono ?_; rintro e w1 ⟨rfl, hb1⟩)
    all_goals (go_ret; exact ⟨rfl, hb1⟩)
  by_cases hneg : at_ < 0
  · go_enter Tryd.func6, Tryd.ntmps6
    go_wp2_with (go_at_call 9; refine (awake_any _ hgf hf hgk hk).mono ?_; rintro e w1 ⟨rfl, hb1⟩)
    all_goals (go_ret; exact ⟨rfl, hb1⟩)
  obtain ⟨A, rfl⟩ := Int.eq_ofNat_of_zero_le (Int.not_lt.1 hneg)
  have hIl : A % len < len := Nat.mod_lt _ (by omega)
  have hIb : A % len < bs.length := by omega
  go_enter Tryd.func6, Tryd.ntmps6
  go_wp2_with fail
  refine (awake_any _ hgf hf hgk hk).mono ?_
  rintro e w1 ⟨rfl, hb1⟩
  have s1 := hb1.size
  have hseg1 := hseg.below hb1 (Nat.le_refl _)
  have hx8 := xor8 (bs[A % len]) t
  obtain ⟨y0, hy0⟩ : ∃ y, y = bs[A % len] := ⟨_, rfl⟩
  rw [← hy0] at hx8
  have HY : Hid (y0 = bs[A % len]) := hy0
  clear hy0
  go_wp2_with (at_builtin; refine app_own _ rfl (.tmp 28) (.tmp 29) rfl w1.heap.size _ [] rfl (by exact own_empty _ _ _ rfl (Nat.le_refl _)) _ bs rfl (by exact hseg1.alloc _) (by simp; omega) (by simp) ?_; intro v2 w2 ho2 hg2 hv2; rw [List.nil_append] at ho2; obtain ⟨g2, c2, hv2e, hgb2, hgl2, hc2, hr2⟩ := ho2.form (by omega); rw [hv2e]; rw [hv2e] at ho2; rw [hl] at hv2e ho2 ⊢; have cI := (hr2 (A % len) hIb).trans (show _ = some (v8 y0) by rw [HY.out]); rw [Nat.zero_add] at cI; have fI := (ho2.set (A % len) 0).2; have R3 := (ho2.set (A % len) (y0 ^^^ t)).1; have hB2 := below_grown ((Below.refl w1.heap.size w1).alloc (Nat.le_refl _) _) hg2 (by simp) (fun q hq => by have h2 : w1.heap.size = q := Option.some.inj hq; omega); have hB3 := hB2.setCell (p := ⟨g2, A % len, none⟩) hgb2 (v8 (y0 ^^^ t)); have hs3 : g2 < (w2.setCell ⟨g2, A % len, none⟩ (v8 (y0 ^^^ t))).heap.size := (by simpa using hgl2); clear hg2 hv2 hr2 ho2)
  generalize w2.setCell ⟨g2, A % len, none⟩ (v8 (y0 ^^^ t)) = w3 at *
  have hbl' : (bs.set (A % len) (y0 ^^^ t)).length = len := by simp [hl]
  generalize bs.set (A % len) (y0 ^^^ t) = bt at R3 hbl'
  have hlc : len ≤ c2 := by omega
  have hB3' : Below w.heap.size w w3 := hb1.trans (hB3.mono s1)
  have hsc3 : Seg w3 (.slice (some ⟨g2, 0, none⟩) len c2) bt := Seg.of_row R3 hbl' hlc hs3
  have heq : ∀ w : World, (Op.equalIn 10000 24 (.agg ((shaOf bs).map v8).toArray) (.agg ((shaOf bt).map v8).toArray)).run Tryd.prog w = .ok (shaOf bs == shaOf bt) w := fun w =>
    run_equalIn_bytes (P := Tryd.prog) w 9998 24 5 32 Tryd.underlying24 Tryd.underlying5 (fun w => by kernel_rfl) (shaOf bs) (shaOf bt) (wbytes_len _) (wbytes_len _)
  clear cI fI R3 hB2 hB3 HY hx8 hseg1 hb1
  have s3 := hB3'.size
  refine (refSum_any _ bs _ (hseg.below hB3' (Nat.le_refl _)) (by omega)).mono ?_
  rintro e w4 ⟨rfl, hb4⟩
  have hsc4 := hsc3.below hb4 (Nat.le_refl _)
  have hB4 : Below w.heap.size w w4 := hB3'.trans (hb4.mono s3)
  have s4 := hB4.size
  clear hsc3 hB3' hb4
  go_wp2_with fail
  refine (refSum_any _ bt _ hsc4 (by omega)).mono ?_
  rintro e w5 ⟨rfl, hb5⟩
  have hsc5 := hsc4.below hb5 (Nat.le_refl _)
  have hB5 : Below w.heap.size w w5 := hB4.trans (hb5.mono s4)
  have s5 := hB5.size
  clear hsc4 hB4 hb5
  generalize hEQ : (shaOf bs == shaOf bt) = EQ at heq
  clear hEQ
  have HS1 : Hid (∀ W, Seg W (.slice ao len c) bs → 0 < W.heap.size → Tab W 0 (St.start.list.map v32) → 1 < W.heap.size → Tab W 1 (kWords.map v32) → Calls Tryd.prog 10 #[.slice ao len c] W fun e w' => e = .returned (.agg ((shaOf bs).map v8).toArray) ∧ Below W.heap.size W w') := fun W h1 h2 h3 h4 h5 => sum_any _ bs W h1 (by omega) h2 h3 h4 h5
  have HS2 : Hid (∀ W, Seg W (.slice (some ⟨g2, 0, none⟩) len c2) bt → 0 < W.heap.size → Tab W 0 (St.start.list.map v32) → 1 < W.heap.size → Tab W 1 (kWords.map v32) → Calls Tryd.prog 10 #[.slice (some ⟨g2, 0, none⟩) len c2] W fun e w' => e = .returned (.agg ((shaOf bt).map v8).toArray) ∧ Below W.heap.size W w') := fun W h1 h2 h3 h4 h5 => sum_any _ bt W h1 (by omega) h2 h3 h4 h5
  generalize ((shaOf bs).map v8).toArray = SA at heq HS1 ⊢
  generalize ((shaOf bt).map v8).toArray = SB at heq HS2 ⊢
  go_wp2_with fail
  refine (HS1.out _ (hseg.below hB5 (Nat.le_refl _)) (by omega) (hf.below hB5 hgf) (by omega) (hk.below hB5 hgk)).mono ?_
  rintro e w6 ⟨rfl, hb6⟩
  have hsc6 := hsc5.below hb6 (Nat.le_refl _)
  have hB6 : Below w.heap.size w w6 := hB5.trans (hb6.mono s5)
  have s6 := hB6.size
  clear hsc5 hB5 hb6
  go_wp2_with fail
  refine (HS2.out _ hsc6 (by omega) (hf.below hB6 hgf) (by omega) (hk.below hB6 hgk)).mono ?_
  rintro e w7 ⟨rfl, hb7⟩
  have hB7 : Below w.heap.size w w7 := hB6.trans (hb7.mono s6)
  clear hsc6 hB6 hb7
  go_wp2
  go_ret
  exact ⟨by simp, hB7⟩
end Go.Proofs.YthipmajgmneopaaDoor
