/-
  What is proved here: wave's Right, whether a device may not be, a copy of a slice of ints.
  Conditions: those that each fact names.
-/
import Derived.Test.YtnagdgkkkkpekabDoorWaveInts
import Derived.Test.YtnagdgkkkkpekabDoorCrcAdd
namespace Go.Proofs.YtnagdgkkkkpekabDoor
open Go.RowKit

def noDevW (d : Int) : Bool := !decide (1 ≤ d ∧ d ≤ 4096)
set_option maxRecDepth 100000 in
set_option maxHeartbeats 1000000 in
theorem indexD_any (x : Value) (zs : List Int) (w : World) (hI : IntsI w x zs) :
    Calls Tryd.prog 18 #[x, .func (.func 8) #[] #[]] w fun e w' => (∃ z : Int, e = .returned (.int .i64 z) ∧ (0 ≤ z ↔ ∃ y ∈ zs, noDevW y = true)) ∧ w' = w := by
  have HBG : Hid (∀ y, Calls Tryd.prog 8 #[.int .i64 y] w fun e w' => e = .returned (.bool (noDevW y)) ∧ w' = w) := fun y => noDevice_any y w
  have HR : Hid (0 < zs.length → ∃ b off c, x = .slice (some ⟨b, off, none⟩) zs.length c ∧ zs.length ≤ c ∧ b < w.heap.size ∧ ∀ (j : Nat) z, zs[j]? = some z → w.cell? ⟨b, off + j, none⟩ = some (vI z)) := fun h => hI.form h
  obtain ⟨ao, c, rfl⟩ := hI.shape
  have HM : Hid (zs.length ≤ maxLen) := hI.short
  clear hI
  go_enter Tryd.func18, Tryd.ntmps18
  go_wp2
  go_loop [8] (fun i => ∃ k : Nat, k ≤ zs.length ∧ i = .int .i64 (k : Int) ∧ Hid (∀ j (h : j < zs.length), j < k → noDevW zs[j] = false)) (fun i => zs.length - (intOf i).toNat)
  case atStart => exact ⟨0, Nat.zero_le _, rfl, fun j _ h => by omega⟩
  case round =>
    obtain ⟨k, hk, rfl, HS⟩ := hrel
    have hmx : zs.length ≤ 9223372036854775807 := by have := HM.out; unfold maxLen at this; omega
    by_cases hlt : k < zs.length
    · obtain ⟨b, off, c', hx, _, hb, hr⟩ := HR.out (by omega)
      cases hx
      have hc1 := hr k _ (List.getElem?_eq_getElem hlt)
      have ix := fun w => index_intsI b off zs.length c k w hlt
      obtain ⟨y, hy⟩ : ∃ y, y = zs[k] := ⟨_, rfl⟩
      rw [← hy] at hc1
      have HY : Hid (y = zs[k]) := hy
      clear hy hr
      cases ht : noDevW y with
      | true =>
        go_wp2_with fail
        refine (HBG.out y).mono ?_
        rintro e w1 ⟨rfl, rfl⟩
        go_wp2
        go_ret
        exact ⟨⟨_, rfl, ⟨fun _ => ⟨zs[k], List.getElem_mem hlt, by rw [← HY.out]; exact ht⟩, fun _ => by omega⟩⟩, rfl⟩
      | false =>
        go_wp2_with fail
        refine (HBG.out y).mono ?_
        rintro e w1 ⟨rfl, rfl⟩
        go_wp2
        go_round
        case rel =>
          refine ⟨k + 1, hlt, by go_num, fun j h hj => ?_⟩
          by_cases e : j = k
          · subst e; rw [← HY.out]; exact ht
          · exact HS.out j h (by omega)
        case measure => simp [intOf]; omega
    · go_wp2
      go_ret
      refine ⟨⟨_, rfl, ⟨fun h => by omega, fun ⟨y, hy, ht⟩ => ?_⟩⟩, rfl⟩
      obtain ⟨j, hj, rfl⟩ := List.getElem_of_mem hy
      rw [HS.out j hj (by omega)] at ht
      cases ht
set_option maxRecDepth 100000 in
theorem contD_any (x : Value) (zs : List Int) (w : World) (hI : IntsI w x zs) :
    Calls Tryd.prog 10 #[x, .func (.func 8) #[] #[]] w fun e w' => e = .returned (.bool (zs.any noDevW)) ∧ w' = w := by
  have HI := indexD_any x zs w hI
  obtain ⟨ao, c, rfl⟩ := hI.shape
  have HH : Hid (Calls Tryd.prog 18 #[.slice ao zs.length c, .func (.func 8) #[] #[]] w fun e w' => (∃ z : Int, e = .returned (.int .i64 z) ∧ (0 ≤ z ↔ ∃ y ∈ zs, noDevW y = true)) ∧ w' = w) := HI
  clear HI hI
  go_enter Tryd.func10, Tryd.ntmps10
  go_wp2_with fail
  refine HH.out.mono ?_
  rintro e w1 ⟨⟨z, rfl, hz⟩, rfl⟩
  have hd : decide (0 ≤ z) = zs.any noDevW := by
    rw [Bool.eq_iff_iff, decide_eq_true_iff, hz, List.any_eq_true]
  have HU : Hid (decide (0 ≤ z) = zs.any noDevW) := hd
  clear hz hd
  go_wp2
  go_ret
  exact ⟨ret_bool HU.out, rfl⟩
/-- What is ahead of a part. -/
def aheadW (l : List Int) (k : Nat) : Int := if k = 0 then 0 else l.getD (k - 1) 0
theorem rise_drop (l : List Int) (k : Nat) (h : k < l.length) : riseW (aheadW l k) (l.drop k) = (decide (aheadW l k < l[k]) && riseW (aheadW l (k + 1)) (l.drop (k + 1))) := by
  rw [List.drop_eq_getElem_cons h]
  show (decide (aheadW l k < l[k]) && riseW l[k] (l.drop (k + 1))) = _
  congr 2
  unfold aheadW
  rw [if_neg (by omega), Nat.add_sub_cancel, List.getD_eq_getElem?_getD, List.getElem?_eq_getElem h]; rfl
set_option maxRecDepth 100000 in
set_option maxHeartbeats 1000000 in
theorem right15_any (x : Value) (zs : List Int) (w : World) (hI : IntsI w x zs) :
    Calls Tryd.prog 11 #[x] w fun e w' => e = .returned (.bool (partsW zs)) ∧ w' = w := by
  have HR : Hid (0 < zs.length → ∃ b off c, x = .slice (some ⟨b, off, none⟩) zs.length c ∧ zs.length ≤ c ∧ b < w.heap.size ∧ ∀ (j : Nat) z, zs[j]? = some z → w.cell? ⟨b, off + j, none⟩ = some (vI z)) := fun h => hI.form h
  obtain ⟨ao, c, rfl⟩ := hI.shape
  have HM : Hid (zs.length ≤ maxLen) := hI.short
  clear hI
  by_cases hbig : 8 < zs.length
  · have e : partsW zs = false := by unfold partsW; rw [decide_eq_false (by omega)]; rfl
    rw [e]
    have hi : (8 : Int) < (zs.length : Int) := by omega
    go_enter Tryd.func11, Tryd.ntmps11
    go_wp2
    go_ret
    exact ⟨rfl, rfl⟩
  · have e : partsW zs = riseW 0 zs := by unfold partsW; rw [decide_eq_true (by omega)]; rfl
    have hi : ¬ (8 : Int) < (zs.length : Int) := by omega
    have hl8 : zs.length ≤ 8 := by omega
    rw [e]
    obtain ⟨R, hR⟩ : ∃ R, R = riseW 0 zs := ⟨_, rfl⟩
    rw [← hR]
    have HRR : Hid (R = riseW 0 zs) := hR
    clear hR e
    go_enter Tryd.func11, Tryd.ntmps11
    go_wp2
    go_loop [3, 11] (fun a i => ∃ (k : Nat), k ≤ zs.length ∧ i = .int .i64 (k : Int) ∧ a = .int .i64 (aheadW zs k) ∧ Hid (R = riseW (aheadW zs k) (zs.drop k))) (fun _ i => zs.length - (intOf i).toNat)
    case atStart => exact ⟨0, Nat.zero_le _, rfl, rfl, HRR.out⟩
    case round =>
      obtain ⟨k, hk, rfl, rfl, HS⟩ := hrel
      by_cases hlt : k < zs.length
      · obtain ⟨b, off, c', hx, _, hb, hr⟩ := HR.out (by omega)
        cases hx
        have hc1 := hr k _ (List.getElem?_eq_getElem hlt)
        have ix := fun w => index_intsI b off zs.length c k w hlt
        have HS2 : Hid (R = (decide (aheadW zs k < zs[k]) && riseW (aheadW zs (k + 1)) (zs.drop (k + 1)))) := by rw [← rise_drop zs k hlt]; exact HS.out
        have HA : Hid (aheadW zs (k + 1) = zs[k]) := by
          unfold aheadW
          rw [if_neg (by omega), Nat.add_sub_cancel, List.getD_eq_getElem?_getD, List.getElem?_eq_getElem hlt]; rfl
        obtain ⟨y, hy⟩ : ∃ y, y = zs[k] := ⟨_, rfl⟩
        rw [← hy] at hc1 HS2 HA
        obtain ⟨A, hA⟩ : ∃ A, A = aheadW zs k := ⟨_, rfl⟩
        rw [← hA] at HS2 ⊢
        clear hy hr hA HS
        by_cases hle : y ≤ A
        · have hE : R = false := by rw [HS2.out, decide_eq_false (by omega)]; rfl
          clear HS2 HRR
          subst hE
          go_wp2
          go_ret
          exact ⟨rfl, rfl⟩
        · have hlt2 : A < y := by omega
          have HE : Hid (R = riseW (aheadW zs (k + 1)) (zs.drop (k + 1))) := by
            have := HS2.out
            rw [decide_eq_true (by omega), Bool.true_and] at this
            exact this
          clear HS2 HRR hlt2
          go_wp2
          go_round
          case rel => exact ⟨k + 1, hlt, by go_num, by rw [HA.out], HE.out⟩
          case measure => simp [intOf]; omega
      · have hkl : k = zs.length := by omega
        have HE : Hid (R = decide (aheadW zs k = 100)) := by
          have := HS.out
          rw [List.drop_eq_nil_of_le (by omega)] at this
          exact this
        generalize aheadW zs k = A at *
        clear HS HRR hkl
        by_cases hA : A = 100
        · have hE : R = true := by rw [HE.out, decide_eq_true hA]
          subst hA
          clear HE
          subst hE
          go_wp2
          go_ret
          exact ⟨rfl, rfl⟩
        · have hE : R = false := by rw [HE.out, decide_eq_false hA]
          have hb : (A == 100) = false := by simpa using hA
          clear HE hA
          subst hE
          go_wp2
          go_ret
          exact ⟨rfl, rfl⟩
theorem eql_nil_ints (w : World) (l c : Nat) : (binOp .eql 22 (.slice none l c) (.slice none 0 0)).run Tryd.prog w = .ok (.bool true) w := by
  have := run_equal_slice_nil (P := Tryd.prog) w 22 3 none l c Tryd.underlying22
  simp [binOp, this]
theorem eql_some_ints (w : World) (a : Addr) (l c : Nat) : (binOp .eql 22 (.slice (some a) l c) (.slice none 0 0)).run Tryd.prog w = .ok (.bool false) w := by
  have := run_equal_slice_nil (P := Tryd.prog) w 22 3 (some a) l c Tryd.underlying22
  simp [binOp, this]
set_option maxRecDepth 100000 in
theorem cloneI_any (x : Value) (zs : List Int) (w : World) (hm : zs.length ≤ 1000000000) (hI : IntsI w x zs) :
    Calls Tryd.prog 20 #[x] w fun e w' => ∃ v, e = .returned v ∧ OwnZ w' w.heap.size v zs ∧ Below w.heap.size w w' := by
  obtain ⟨ao, c, rfl, h2, h3, h3', h4⟩ := hI
  cases ao with
  | none =>
    have hn : zs = [] := by
      cases zs with
      | nil => rfl
      | cons z l => obtain ⟨b, off, e, _⟩ := h4 0 z rfl; cases e
    subst hn
    obtain rfl := h3' rfl
    have hne := eql_nil_ints w 0 0
    clear h2 h3 h3' h4
    go_enter Tryd.func20, Tryd.ntmps20
    go_wp2
    go_ret
    exact ⟨_, rfl, OwnZ.nil _ _, Below.refl _ _⟩
  | some ad =>
    have hne := eql_some_ints w ad zs.length c
    have hB1 := (Below.refl w.heap.size w).alloc (Nat.le_refl _) (.cells #[] 3)
    have HI2 : Hid (IntsI (w.alloc (.cells #[] 3)) (.slice (some ad) zs.length c) zs) := (show IntsI w (.slice (some ad) zs.length c) zs from ⟨_, c, rfl, h2, h3, h3', h4⟩).below hB1 (Nat.le_refl _)
    clear h2 h3 h3' h4
    go_enter Tryd.func20, Tryd.ntmps20
    go_wp2_with (at_builtin; refine app_ints _ rfl (.tmp 5) (.tmp 6) rfl w.heap.size _ [] rfl (by exact empty_ints _ _ _ rfl (Nat.le_refl _)) _ zs rfl (by exact HI2.out) (by simp; omega) (by simp) ?_; intro v2 w2 ho2 hg2 hv2; rw [List.nil_append] at ho2; have hB2 := below_grown hB1 hg2 (by simp) (fun q hq => by have h2 : w.heap.size = q := Option.some.inj hq; omega))
    go_ret
    exact ⟨_, rfl, ho2, hB2⟩
end Go.Proofs.YtnagdgkkkkpekabDoor
