/-
  What is proved here: of all acts, places and bytes, the statement FlashOnce answers true: programmed twice with the same, or with a beginning of it ahead, it is the same as once; bits that were noughts stay so.
  Conditions: the program's flash keeps to what is asked of it.
-/
import Derived.Test.YtjcbkimibmdggaaFlashCalm
namespace Go.Proofs.Ytjcbkimibmdggaa
open Go.RowKit

theorem ba_get (B : List UInt8) (I : Nat) (h : I < (⟨B.toArray⟩ : ByteArray).size) : (⟨B.toArray⟩ : ByteArray)[I] = B.getD I 0 := by
  have h2 : I < B.length := by simpa [ByteArray.size] using h
  show B.toArray[I] = _
  simp [h2]
/-- Programmed once. -/
def onceF (s : FS) (a : Int) (bs : List UInt8) : FS := { s with b := progL s.b a.toNat bs bs.length }
theorem onceF_calm {s : FS} (h : calm6 s) (a : Int) (bs : List UInt8) : calm6 (onceF s a bs) := h
theorem once_one {s : FS} (h : calm6 s) {a : Int} {bs : List UInt8} (ht : thereB s a bs.length = true) : programF s a bs = (0, onceF s a bs) := by
  rw [programF_calm h, ht, if_neg (by decide)]
  rfl
theorem once_there {s : FS} (a : Int) (bs : List UInt8) (b m : Int) : thereB (onceF s a bs) b m = thereB s b m := thereB_len (progL_len ..) b m
theorem once_two {s : FS} (h : calm6 s) {a : Int} {bs : List UInt8} (ht : thereB s a bs.length = true) : programF (onceF s a bs) a bs = (0, onceF s a bs) := by
  rw [once_one (onceF_calm h a bs) (by rw [once_there]; exact ht)]
  unfold onceF
  rw [progL_again _ _ _ _ _ _ (Nat.le_refl _) (fun _ _ => rfl)]
theorem there_less {s : FS} {a : Int} {m n : Nat} (h : m ≤ n) (ht : thereB s a n = true) : thereB s a m = true := by
  unfold thereB at ht
  simp only [Bool.and_eq_true, decide_eq_true_eq] at ht
  exact there_true (by omega) (by omega) (by omega) (by omega)
theorem once_half {s : FS} (h : calm6 s) {a : Int} {bs : List UInt8} (k : Nat) (ht : thereB s a bs.length = true) : programF (onceF s a (bs.take k)) a bs = (0, onceF s a bs) := by
  rw [once_one (onceF_calm h a _) (by rw [once_there]; exact ht)]
  unfold onceF
  rw [progL_again _ _ _ _ _ _ (by rw [List.length_take]; omega) (fun i hi => by
    rw [List.length_take] at hi
    rw [List.getD_eq_getElem?_getD, List.getD_eq_getElem?_getD, List.getElem?_take_of_lt (by omega)])]

set_option maxRecDepth 100000 in
set_option maxHeartbeats 8000000 in
theorem flashOnce_any (P : PF) (v : Value) (l : List Act6) (a : Int) (x : Value) (bs : List UInt8) (w : World) (hl : Acts6 w v l) (ha : R64 a) (hS : Seg w x bs) (hm : bs.length ≤ maxLen) :
    Calls Try.prog 6 #[v, .int .i64 a, x] w fun e w' => e = .returned (.bool true) ∧ Below w.heap.size w w' := by
  obtain ⟨ab, cb, rfl⟩ := Seg.shapeD hS
  obtain ⟨ao, c, rfl, -, -⟩ := id hl
  go_enter Try.func6, Try.ntmps6
  go_wp2_with fail
  refine (awake6_any P w).mono ?_
  rintro e w1 ⟨rfl, hB1⟩
  go_wp2_with fail
  refine (much6_any _ l w1 (hl.below hB1 (Nat.le_refl _))).mono ?_
  rintro e w2 ⟨⟨mb, rfl⟩, rfl⟩
  cases mb with
  | true =>
    go_wp2
    go_ret
    exact ⟨rfl, hB1⟩
  | false =>
    by_cases hb : 4096 < bs.length
    · have j1 : (4096 : Int) < (bs.length : Int) := by omega
      go_wp2
      go_ret
      exact ⟨rfl, hB1⟩
    have j1 : ¬ (4096 : Int) < (bs.length : Int) := by omega
    go_wp2_with fail
    refine (begun6_any P _ l w1 (hl.below hB1 (Nat.le_refl _))).mono ?_
    rintro e w2 ⟨L, rfl, hLn, hD2, hb2, hT2⟩
    have hB2 : Below w.heap.size w w2 := hB1.trans (hb2.mono hB1.size)
    go_wp2_with fail
    refine (begun6_any P _ l w2 (hl.below hB2 (Nat.le_refl _))).mono ?_
    rintro e w3 ⟨M, rfl, hMn, hE3, hb3, hT3⟩
    have hB3 : Below w.heap.size w w3 := hB2.trans (hb3.mono hB2.size)
    have hD3 := P.after hD2 hb3
    have hoff : ∀ q, P.T L q → ¬ P.T M q := fun q h1 h2 => by have := P.lt hD2 q h1; have := hT3 q h2; omega
    have hTL : ∀ q, P.T L q → w.heap.size ≤ q := fun q h => Nat.le_trans hB1.size (hT2 q h)
    have hTM : ∀ q, P.T M q → w.heap.size ≤ q := fun q h => Nat.le_trans hB2.size (hT3 q h)
    have hs := begunF_calm l
    have hk : (begunF l).ok 4 := by have := P.ok hE3; rwa [hMn] at this
    generalize begunF l = s at *
    clear hD2 hb2 hb3 hT2 hT3 hB1 hB2
    have hall := readF_all hs.1 hk
    go_wp2_with fail
    refine (all6_any P L s w3 hD3).mono ?_
    rw [hall]
    rintro e w4 ⟨rfl, hb4⟩
    have hB4 : Below w.heap.size w w4 := hB3.trans (hb4.mono hB3.size)
    have hD4 := P.after hD3 hb4
    have hE4 := P.after hE3 hb4
    go_wp2_with fail
    refine (P.program L s a _ bs w4 hD4 ha (hS.below hB4 (Nat.le_refl _)) hm (hS.apart6 hTL)).mono ?_
    cases ht : thereB s a bs.length with
    | false =>
      rw [programF_calm hs, ht, if_pos rfl]
      rintro e w5 ⟨rfl, hD5, hc5⟩
      have hB5 : Below w.heap.size w w5 := hB4.trans (hc5.below hTL hB4.size)
      have HA : Hid (Calls Try.prog 24 #[.pointer (some ⟨P.g L, 0, none⟩)] w5 fun e w' => e = .returned (.string ⟨s.b.toArray⟩) ∧ Below w5.heap.size w5 w') := by have := all6_any P L s w5 hD5; rw [hall] at this; exact this
      generalize (⟨s.b.toArray⟩ : ByteArray) = X at *
      go_wp2_with (go_at_call 24; refine HA.out.mono ?_; rintro e w6 ⟨rfl, hb6⟩)
      go_ret
      exact ⟨rfl, hB5.trans (hb6.mono hB5.size)⟩
    | true =>
      rw [once_one hs ht]
      rintro e w5 ⟨rfl, hD5, hc5⟩
      have hB5 : Below w.heap.size w w5 := hB4.trans (hc5.below hTL hB4.size)
      have hE5 := P.chg hE4 hc5 (fun q h1 h2 => hoff q h2 h1)
      go_wp2_with fail
      refine (P.program L _ a _ bs w5 hD5 ha (hS.below hB5 (Nat.le_refl _)) hm (hS.apart6 hTL)).mono ?_
      rw [once_two hs ht]
      rintro e w6 ⟨rfl, hD6, hc6⟩
      have hB6 : Below w.heap.size w w6 := hB5.trans (hc6.below hTL hB5.size)
      have hE6 := P.chg hE5 hc6 (fun q h1 h2 => hoff q h2 h1)
      obtain ⟨H, hH⟩ : ∃ H, H = bs.length / 2 := ⟨_, rfl⟩
      have hdv : (bs.length : Int) / 2 = (H : Int) := by omega
      have hH2 : H ≤ bs.length := by omega
      have hsl := slice_toD ab bs.length cb H (Seg.takesD hS H hH2).2
      have hSt := (Seg.takesD hS H hH2).1
      have htl : (bs.take H).length = H := by rw [List.length_take]; omega
      clear hH
      go_wp2_with fail
      refine (P.program M s a _ (bs.take H) w6 hE6 ha (hSt.below hB6 (Nat.le_refl _)) (by omega) (hSt.apart6 hTM)).mono ?_
      rw [once_one hs (there_less (by omega) ht)]
      rintro e w7 ⟨rfl, hE7, hc7⟩
      have hB7 : Below w.heap.size w w7 := hB6.trans (hc7.below hTM hB6.size)
      have hD7 := P.chg hD6 hc7 (fun q h1 h2 => hoff q h1 h2)
      go_wp2_with fail
      refine (P.program M _ a _ bs w7 hE7 ha (hS.below hB7 (Nat.le_refl _)) hm (hS.apart6 hTM)).mono ?_
      rw [once_half hs H ht]
      rintro e w8 ⟨rfl, hE8, hc8⟩
      have hB8 : Below w.heap.size w w8 := hB7.trans (hc8.below hTM hB7.size)
      have hD8 := P.chg hD7 hc8 (fun q h1 h2 => hoff q h1 h2)
      have hk2 : (onceF s a bs).ok 4 := by have := P.ok hE8; rwa [hMn] at this
      have hall2 := readF_all (onceF_calm hs a bs).1 hk2
      go_wp2_with fail
      refine (all6_any P L _ w8 hD8).mono ?_
      rw [hall2]
      rintro e w9 ⟨rfl, hb9⟩
      have hB9 : Below w.heap.size w w9 := hB8.trans (hb9.mono hB8.size)
      have hE9 := P.after hE8 hb9
      have HA : Hid (Calls Try.prog 24 #[.pointer (some ⟨P.g M, 0, none⟩)] w9 fun e w' => e = .returned (.string ⟨(onceF s a bs).b.toArray⟩) ∧ Below w9.heap.size w9 w') := by have := all6_any P M _ w9 hE9; rw [hall2] at this; exact this
      have hbl : s.b.length = 4096 := hk.b
      have hbl2 : (onceF s a bs).b.length = 4096 := hk2.b
      have hand : ∀ i, i < 4096 → s.b.getD i 0 &&& (onceF s a bs).b.getD i 0 = (onceF s a bs).b.getD i 0 := fun i hi => progL_clears s.b a.toNat bs bs.length i (by rw [hbl]; exact hi)
      generalize (onceF s a bs).b = B2 at *
      generalize s.b = B1 at *
      go_wp2_with (go_at_call 24; refine HA.out.mono ?_; rintro e w10 ⟨rfl, hb10⟩)
      have hB10 : Below w.heap.size w w10 := hB9.trans (hb10.mono hB9.size)
      go_loopw [15] (fun i wr => ∃ I : Nat, i = .int .i64 (I : Int) ∧ I ≤ 4096 ∧ Below w.heap.size w wr) (fun i _ => 4096 - (intOf i).toNat)
      case atStart => exact ⟨0, rfl, by omega, hB10⟩
      case round =>
        obtain ⟨I, rfl, hI, hBr⟩ := hrel
        by_cases hlt : I < 4096
        · have i1 : (I : Int) < 4096 := by omega
          have hX := hand I hlt
          go_wp2
          go_still (by kernel_rfl)
          go_wp2
          · rename_i hne
            have hb8 := bits_and8 (B1.getD I 0) (B2.getD I 0)
            rw [hX] at hb8
            unfold n8 at hb8
            rw [ba_get, ba_get, hb8] at hne
            simp at hne
          go_roundw
          case rel => exact ⟨I + 1, by go_num, hlt, hBr.drew⟩
          case measure => simp [intOf]; omega
        · have i1 : ¬ (I : Int) < 4096 := by omega
          go_wp2
          go_ret
          exact ⟨rfl, hBr⟩
end Go.Proofs.Ytjcbkimibmdggaa
