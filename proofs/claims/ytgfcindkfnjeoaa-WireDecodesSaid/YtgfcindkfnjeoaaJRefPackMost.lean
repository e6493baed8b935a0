/-
  What is proved here: the document's most, Right and Most answer as the plain functions do. the document's Right and Most answer as the plain functions do.
  Conditions: the fields lie in memory as slices of fields.
-/
import Derived.Test.YtgfcindkfnjeoaaJPackMost
namespace Go.Proofs.Ytgfcindkfnjeoaa
open Go.RowKit

def refMostSaid (r : Nat) : Prop := ∀ (n : Nat) (v : Value) (l : List Fld) (w : World) (d : Int), d = 5 - (r : Int) → Flds w n v l →
    Calls Try.prog 53 #[v, .int .i64 d] w fun e w' => e = .returned (.int .i64 (((mostL r l).getD 1048577 : Nat) : Int)) ∧ Below w.heap.size w w'

theorem mostSum_over (M : List Fld → Option Nat) (l : List Fld) (I S : Nat) (h : mostSum M (l.take I) = some S) (hS : 1048576 < S) : (match mostSum M l with
      | none => none
      | some n => if 1048576 < n then none else some n) = (none : Option Nat) := by
  have hs : l = l.take I ++ l.drop I := (List.take_append_drop I l).symm
  rw [hs, mostSum_append, h]
  cases mostSum M (l.drop I) with
  | none => rfl
  | some y => simp; omega

set_option maxRecDepth 100000 in
theorem refMost_zero : refMostSaid 0 := by
  intro n v l w d hd hf
  obtain ⟨ao, c, hv, hl, _⟩ := hf.form
  unfold maxLen at hl
  subst hv
  have hd5 : (4 : Int) < d := by omega
  clear hd
  go_enter Try.func53, Try.ntmps53
  go_wp2
  all_goals go_ret
  all_goals exact ⟨rfl, Below.refl _ _⟩
set_option maxRecDepth 100000 in
set_option maxHeartbeats 8000000 in
theorem refMost_step (r : Nat) (hr : r + 1 ≤ 4) (ih : refMostSaid r) : refMostSaid (r + 1) := by
  intro n v l w d hd hf
  obtain ⟨ao, c, hv, hl, hcell⟩ := hf.form
  unfold maxLen at hl
  subst hv
  have HM : Hid (mostL (r + 1) l = if l.length < 1 ∨ 16 < l.length then none else match mostSum (mostL r) l with
    | none => none
    | some n => if 1048576 < n then none else some n) := rfl
  obtain ⟨len, hlen⟩ : ∃ len, l.length = len := ⟨_, rfl⟩
  rw [hlen] at hl hcell HM ⊢
  have hd4 : ¬ (4 : Int) < d := by omega
  have hd0 : 0 ≤ d := by omega
  have HI : Hid (∀ (f : Fld) (o : Value) (W : World), Flds W (n - 1) o f.of → Calls Try.prog 53 #[o, .int .i64 (d + 1)] W fun e w' => e = .returned (.int .i64 (((mostL r f.of).getD 1048577 : Nat) : Int)) ∧ Below W.heap.size W w') := fun f o W h => ih (n - 1) o f.of W (d + 1) (by omega) h
  clear hd
  by_cases h1 : len < 1
  · have hres : Hid (mostL (r + 1) l = none) := by show _ = _; rw [HM.out, if_pos (.inl h1)]
    go_enter Try.func53, Try.ntmps53
    go_wp2
    go_ret
    exact ⟨by rw [hres.out]; rfl, Below.refl _ _⟩
  by_cases h16 : 16 < len
  · have hres : Hid (mostL (r + 1) l = none) := by show _ = _; rw [HM.out, if_pos (.inr h16)]
    go_enter Try.func53, Try.ntmps53
    go_wp2
    go_ret
    exact ⟨by rw [hres.out]; rfl, Below.refl _ _⟩
  obtain ⟨b, off, rfl, hb, hc, hF⟩ := hcell (by omega)
  go_enter Try.func53, Try.ntmps53
  go_wp2
  go_loopw [5, 6] (fun m i wr => ∃ I S : Nat, I ≤ len ∧ i = .int .i64 (I : Int) ∧ m = .int .i64 (S : Int) ∧ mostSum (mostL r) (l.take I) = some S ∧ S ≤ 1048576 ∧ Below w.heap.size w wr) (fun _ i _ => len - (intOf i).toNat)
  case atStart => exact ⟨0, 0, Nat.zero_le _, rfl, rfl, rfl, Nat.zero_le _, Below.refl _ _⟩
  case round =>
    obtain ⟨I, S, hI, rfl, rfl, hS, hSb, hB⟩ := hrel
    have HS : Hid (mostSum (mostL r) (l.take I) = some S) := hS
    clear hS
    by_cases hlt : I < len
    · obtain ⟨f, hf1⟩ : ∃ f, l[I]? = some f := ⟨l[I], List.getElem?_eq_getElem (by omega)⟩
      have K := Keeps.of_below hB (Nat.le_refl _)
      obtain ⟨c0, c1, c2, ⟨o, c3, hof⟩, hmn, hmx⟩ := (hF I f hf1).keeps K (fun v l h => Flds.keeps K _ v l h)
      have i1 : (I : Int) < (len : Int) := by omega
      have HC : Hid (∀ W, Keeps wr W → Calls Try.prog 53 #[o, .int .i64 (d + 1)] W fun e w' => e = .returned (.int .i64 (((mostL r f.of).getD 1048577 : Nat) : Int)) ∧ Below W.heap.size W w') := fun W hW => HI.out f o W (Flds.keeps hW _ _ _ hof)
      obtain ⟨ao2, cc2, ho2, hol2, _⟩ := hof.form
      unfold maxLen at hol2
      subst ho2
      have s1 := hB.size
      have HN : Hid (mostOne (mostL r) f = none → mostL (r + 1) l = none) := fun h => by rw [HM.out, if_neg (by omega), mostSum_none _ l I f hf1 h]
      have HA : Hid (∀ a, mostOne (mostL r) f = some a → mostSum (mostL r) (l.take (I + 1)) = some (S + a) ∧ a ≤ 68719476744) := fun a h => ⟨mostSum_snoc _ l I f S a hf1 HS.out h, mostOne_le h⟩
      have HO : Hid (∀ a, mostOne (mostL r) f = some a → 1048576 < S + a → mostL (r + 1) l = none) := fun a h h2 => by rw [HM.out, if_neg (by omega)]; exact mostSum_over _ l (I + 1) (S + a) (mostSum_snoc _ l I f S a hf1 HS.out h) h2
      have HBB : Hid (∀ W ob, Below (wr.heap.size + 1) (wr.alloc ob) W → Below w.heap.size w W) := fun W ob h => hB.trans ((((Below.refl wr.heap.size wr).alloc (Nat.le_refl _) _).trans (h.mono (by omega))).mono s1)
      obtain ⟨ol, hole⟩ : ∃ ol, f.of.length = ol := ⟨_, rfl⟩
      rw [hole] at HC c3 hol2
      have hwl := wid_le (f.max - f.min)
      by_cases h1 : f.max < f.min
      · have hres : Hid (mostL (r + 1) l = none) := HN.out (mostOne_a h1)
        have i2 : (f.max : Int) < (f.min : Int) := by omega
        go_wp2
        go_ret
        exact ⟨by rw [hres.out]; rfl, HBB.out _ _ (Below.refl _ _)⟩
      have i2 : ¬ (f.max : Int) < (f.min : Int) := by omega
      have hsub : (f.max : Int) - (f.min : Int) = ((f.max - f.min : Nat) : Int) := by omega
      have hw : ∀ W, Calls Try.prog 54 #[.int .u64 ((f.max - f.min : Nat) : Int)] W fun e w' => e = .returned (.int .i64 (wid (f.max - f.min) : Int)) ∧ w' = W := fun W => refWidth_any _ (by omega) W
      have hlt64 : f.max - f.min < 18446744073709551616 := by omega
      have M1 := fun h => mostOne_1 (M := mostL r) (f := f) h1 h
      have M2 := fun a h => mostOne_2 (M := mostL r) (f := f) h1 a h
      have M3 := fun a h => mostOne_3 (M := mostL r) (f := f) h1 a h
      rw [hole] at M1 M2
      generalize wid (f.max - f.min) = WD at hw M1 M2 M3 hwl
      by_cases hk1 : f.kind = 1
      · have hmo1 := M1 hk1
        have j1 : (f.kind == 1) = true := by simpa using hk1
        have j2 : (f.kind != 1) = false := by simpa using hk1
        have j3 : (f.kind != 3) = true := by simp [hk1]
        clear M1 M2 M3 hk1
        by_cases hz : ol = 0
        · rw [if_pos hz] at hmo1
          have hmo : mostOne (mostL r) f = some WD := hmo1
          have jz : ¬ (0 : Int) < (ol : Int) := by omega
          clear hmo1 hz
          by_cases hov : 1048576 < S + (WD)
          · have hres : Hid (mostL (r + 1) l = none) := HO.out _ hmo hov
            have iov : (1048576 : Int) < (S : Int) + ((WD : Nat) : Int) := by omega
            clear hmo
            go_wp2_with (first | (go_at_call 54; refine (hw _).mono ?_; rintro e w1 ⟨rfl, rfl⟩))
            go_ret
            exact ⟨by rw [hres.out]; rfl, HBB.out _ _ (Below.refl _ _)⟩
          · have HS2 : Hid (mostSum (mostL r) (l.take (I + 1)) = some (S + (WD))) := (HA.out _ hmo).1
            have iov : ¬ (1048576 : Int) < (S : Int) + ((WD : Nat) : Int) := by omega
            clear hmo
            go_wp2_with (first | (go_at_call 54; refine (hw _).mono ?_; rintro e w1 ⟨rfl, rfl⟩))
            go_roundw
            case rel => exact ⟨I + 1, S + (WD), hlt, by go_num, by go_num, HS2.out, by omega, HBB.out _ _ (Below.refl _ _)⟩
            case measure => simp [intOf]; omega
        · have hres : Hid (mostL (r + 1) l = none) := HN.out (by rw [hmo1, if_neg hz])
          have jz : (0 : Int) < (ol : Int) := by omega
          clear hmo1 hz
          go_wp2_with (first | (go_at_call 54; refine (hw _).mono ?_; rintro e w1 ⟨rfl, rfl⟩))
          go_ret
          exact ⟨by rw [hres.out]; rfl, HBB.out _ _ (Below.refl _ _)⟩
      have j1 : (f.kind == 1) = false := by simpa using hk1
      have j2 : (f.kind != 1) = true := by simpa using hk1
      by_cases hbig : 65536 < f.max
      · have hres : Hid (mostL (r + 1) l = none) := HN.out (mostOne_b hk1 hbig)
        have jb : (65536 : Int) < (f.max : Int) := by omega
        clear M1 M2 M3 hk1
        by_cases hz : 0 < ol ∧ f.kind ≠ 3
        · have jz : (0 : Int) < (ol : Int) := by omega
          have j3 : (f.kind != 3) = true := by simpa using hz.2
          clear hz
          go_wp2
          go_ret
          exact ⟨by rw [hres.out]; rfl, HBB.out _ _ (Below.refl _ _)⟩
        · by_cases hk3 : f.kind = 3
          · have j3 : (f.kind != 3) = false := by simpa using hk3
            clear hz hk3
            go_wp2
            go_ret
            exact ⟨by rw [hres.out]; rfl, HBB.out _ _ (Below.refl _ _)⟩
          · have jz : ¬ (0 : Int) < (ol : Int) := by omega
            have j3 : (f.kind != 3) = true := by simpa using hk3
            clear hz hk3
            go_wp2
            go_ret
            exact ⟨by rw [hres.out]; rfl, HBB.out _ _ (Below.refl _ _)⟩
      have jb : ¬ (65536 : Int) < (f.max : Int) := by omega
      by_cases hk2 : f.kind = 2
      · have hmo1 := M2 hbig hk2
        have j3 : (f.kind == 2) = true := by simpa using hk2
        have j4 : (f.kind != 3) = true := by simp [hk2]
        clear M1 M2 M3 hk1 hk2
        by_cases hz : ol = 0
        · rw [if_pos hz] at hmo1
          have hmo : mostOne (mostL r) f = some (WD + f.max) := hmo1
          have jz : ¬ (0 : Int) < (ol : Int) := by omega
          clear hmo1 hz
          by_cases hov : 1048576 < S + (WD + f.max)
          · have hres : Hid (mostL (r + 1) l = none) := HO.out _ hmo hov
            have iov : (1048576 : Int) < (S : Int) + ((WD + f.max : Nat) : Int) := by omega
            clear hmo
            go_wp2_with (first | (go_at_call 54; refine (hw _).mono ?_; rintro e w1 ⟨rfl, rfl⟩))
            go_ret
            exact ⟨by rw [hres.out]; rfl, HBB.out _ _ (Below.refl _ _)⟩
          · have HS2 : Hid (mostSum (mostL r) (l.take (I + 1)) = some (S + (WD + f.max))) := (HA.out _ hmo).1
            have iov : ¬ (1048576 : Int) < (S : Int) + ((WD + f.max : Nat) : Int) := by omega
            clear hmo
            go_wp2_with (first | (go_at_call 54; refine (hw _).mono ?_; rintro e w1 ⟨rfl, rfl⟩))
            go_roundw
            case rel => exact ⟨I + 1, S + (WD + f.max), hlt, by go_num, by go_num, HS2.out, by omega, HBB.out _ _ (Below.refl _ _)⟩
            case measure => simp [intOf]; omega
        · have hres : Hid (mostL (r + 1) l = none) := HN.out (by rw [hmo1, if_neg hz])
          have jz : (0 : Int) < (ol : Int) := by omega
          clear hmo1 hz
          go_wp2_with (first | (go_at_call 54; refine (hw _).mono ?_; rintro e w1 ⟨rfl, rfl⟩))
          go_ret
          exact ⟨by rw [hres.out]; rfl, HBB.out _ _ (Below.refl _ _)⟩
      have j3 : (f.kind == 2) = false := by simpa using hk2
      by_cases hk3 : f.kind = 3
      · have hmo1 := M3 hbig hk3
        have j4 : (f.kind == 3) = true := by simpa using hk3
        have j5 : (f.kind != 3) = false := by simpa using hk3
        clear M1 M2 M3 hk1 hk2 hk3
        cases hml : mostL r f.of with
        | none =>
          have hres : Hid (mostL (r + 1) l = none) := HN.out (by rw [hmo1, hml]; rfl)
          rw [hml, Option.getD_none] at HC
          clear hmo1 hml
          go_wp2_with (first | (go_at_call 54; refine (hw _).mono ?_; rintro e w1 ⟨rfl, rfl⟩) | (go_at_call 53; refine (HC.out _ (by exact Keeps.of_below ((Below.refl wr.heap.size wr).alloc (Nat.le_refl _) _) (Nat.le_refl _))).mono ?_; rintro e w2 ⟨rfl, hb2⟩))
          go_ret
          exact ⟨by rw [hres.out]; rfl, HBB.out _ _ (by simpa using hb2)⟩
        | some k =>
          have hmo : mostOne (mostL r) f = some (WD + f.max * k) := by rw [hmo1, hml]; rfl
          have hkb := mostL_le hml
          rw [hml, Option.getD_some] at HC
          have hmul : f.max * k ≤ 65536 * 1048576 := Nat.mul_le_mul (by omega) hkb
          have hmi : (f.max : Int) * (k : Int) = ((f.max * k : Nat) : Int) := by simp
          generalize f.max * k = PM at hmul hmi hmo
          clear hmo1 hml
          by_cases hov : 1048576 < S + (WD + PM)
          · have hres : Hid (mostL (r + 1) l = none) := HO.out _ hmo hov
            have iov : (1048576 : Int) < (S : Int) + ((WD + PM : Nat) : Int) := by omega
            clear hmo
            go_wp2_with (first | (go_at_call 54; refine (hw _).mono ?_; rintro e w1 ⟨rfl, rfl⟩) | (go_at_call 53; refine (HC.out _ (by exact Keeps.of_below ((Below.refl wr.heap.size wr).alloc (Nat.le_refl _) _) (Nat.le_refl _))).mono ?_; rintro e w2 ⟨rfl, hb2⟩; have e2 := ((Blk.new wr 62 _).below hb2 (by simp)).cell (j := 2) rfl))
            go_ret
            exact ⟨by rw [hres.out]; rfl, HBB.out _ _ (by simpa using hb2)⟩
          · have HS2 : Hid (mostSum (mostL r) (l.take (I + 1)) = some (S + (WD + PM))) := (HA.out _ hmo).1
            have iov : ¬ (1048576 : Int) < (S : Int) + ((WD + PM : Nat) : Int) := by omega
            clear hmo
            go_wp2_with (first | (go_at_call 54; refine (hw _).mono ?_; rintro e w1 ⟨rfl, rfl⟩) | (go_at_call 53; refine (HC.out _ (by exact Keeps.of_below ((Below.refl wr.heap.size wr).alloc (Nat.le_refl _) _) (Nat.le_refl _))).mono ?_; rintro e w2 ⟨rfl, hb2⟩; have e2 := ((Blk.new wr 62 _).below hb2 (by simp)).cell (j := 2) rfl))
            go_roundw
            case rel => exact ⟨I + 1, S + (WD + PM), hlt, by go_num, by go_num, HS2.out, by omega, HBB.out _ _ (by simpa using hb2)⟩
            case measure => simp [intOf]; omega
      have hres : Hid (mostL (r + 1) l = none) := HN.out (mostOne_4 hk1 hk2 hk3)
      have j4 : (f.kind == 3) = false := by simpa using hk3
      have j5 : (f.kind != 3) = true := by simpa using hk3
      clear M1 M2 M3 hk1 hk2 hk3
      by_cases hz : 0 < ol
      · have jz : (0 : Int) < (ol : Int) := by omega
        go_wp2
        go_ret
        exact ⟨by rw [hres.out]; rfl, HBB.out _ _ (Below.refl _ _)⟩
      · have jz : ¬ (0 : Int) < (ol : Int) := by omega
        go_wp2_with (first | (go_at_call 54; refine (hw _).mono ?_; rintro e w1 ⟨rfl, rfl⟩))
        go_ret
        exact ⟨by rw [hres.out]; rfl, HBB.out _ _ (Below.refl _ _)⟩
    · have HE : Hid (mostSum (mostL r) l = some S) := by show _ = _; rw [← HS.out, List.take_of_length_le (by omega)]
      have HM2 : Hid (mostL (r + 1) l = some S) := by show _ = _; rw [HM.out, if_neg (by omega), HE.out]; exact if_neg (by omega)
      have i1 : ¬ (I : Int) < (len : Int) := by omega
      go_wp2
      go_ret
      exact ⟨by rw [HM2.out]; rfl, hB⟩
theorem refMost_any : ∀ r, r ≤ 4 → refMostSaid r
  | 0, _ => refMost_zero
  | r + 1, h => refMost_step r h (refMost_any r (Nat.le_of_succ_le h))
end Go.Proofs.Ytgfcindkfnjeoaa
namespace Go.Proofs.Ytgfcindkfnjeoaa
open Go.RowKit

set_option maxRecDepth 100000 in
theorem refRight_any (n : Nat) (v : Value) (l : List Fld) (w : World) (hf : Flds w n v l) :
    Calls Try.prog 37 #[v] w fun e w' => e = .returned (.bool (mostL 4 l).isSome) ∧ Below w.heap.size w w' := by
  obtain ⟨ao, c, hv, _, _⟩ := hf.form
  have HM : Hid (Calls Try.prog 53 #[v, .int .i64 1] w fun e w' => e = .returned (.int .i64 (((mostL 4 l).getD 1048577 : Nat) : Int)) ∧ Below w.heap.size w w') := refMost_any 4 (by omega) n v l w 1 (by decide) hf
  subst hv
  cases hm : mostL 4 l with
  | none =>
    rw [hm, Option.getD_none] at HM
    go_enter Try.func37, Try.ntmps37
    go_wp2_with (go_at_call 53; refine HM.out.mono ?_; rintro e w1 ⟨rfl, hb1⟩)
    go_ret
    exact ⟨rfl, hb1⟩
  | some k =>
    have hk := mostL_le hm
    rw [hm, Option.getD_some] at HM
    have i1 : (k : Int) ≤ 1048576 := by omega
    go_enter Try.func37, Try.ntmps37
    go_wp2_with (go_at_call 53; refine HM.out.mono ?_; rintro e w1 ⟨rfl, hb1⟩)
    go_ret
    exact ⟨by simp, hb1⟩

end Go.Proofs.Ytgfcindkfnjeoaa
