/-
  What is proved here: pack.mostOfFields, Right and Most answer as the plain functions do: whether fields may be, and how many bytes their records have at most.
  Conditions: the fields lie in memory as slices of fields.
-/
import Derived.Test.YtjepeonekhhgfaaPackMost
namespace Go.Proofs.Ytjepeonekhhgfaa
open Go.RowKit

set_option maxRecDepth 100000 in
set_option maxHeartbeats 1000000 in
theorem mostFs_any : ∀ r, r ≤ 4 → mostFsSaid r
  | 0, _ => by
    intro n v l w d hd hf
    obtain ⟨ao, c, hv, hl, _⟩ := hf.form
    unfold maxLen at hl
    subst hv
    have hd5 : (4 : Int) < d := by omega
    have hr0 : Hid (mostL 0 l = none) := rfl
    clear hd
    go_enter Try.func22, Try.ntmps22
    go_wp2
    go_ret2
    exact ⟨rfl, Below.refl _ _⟩
  | r + 1, hr => by
    intro n v l w d hd hf
    have ih := mostFs_any r (by omega)
    obtain ⟨ao, c, hv, hl, hcell⟩ := hf.form
    unfold maxLen at hl
    subst hv
    have HM : Hid (mostL (r + 1) l = if l.length < 1 ∨ 16 < l.length then none else match mostSum (mostL r) l with
      | none => none
      | some n => if 1048576 < n then none else some n) := rfl
    obtain ⟨len, hlen⟩ : ∃ len, l.length = len := ⟨_, rfl⟩
    rw [hlen] at hl hcell HM ⊢
    have HF : Hid (∀ (f : Fld) (o : Value) (W : World), f.max < 18446744073709551616 → Flds W (n - 1) o f.of → Calls Try.prog 30 #[fldV f o, .int .i64 d] W fun e w' => ∃ x : Nat, e = .returned (.tuple #[.int .u64 (x : Int), .bool (mostOne (mostL r) f).isSome]) ∧ (∀ m, mostOne (mostL r) f = some m → x = m) ∧ Below W.heap.size W w') := fun f o W h1 h2 => mostF_any r (by omega) ih f (n - 1) o W d hd h1 h2
    have hd4 : ¬ (4 : Int) < d := by omega
    have hd0 : 0 ≤ d := by omega
    clear hd
    by_cases h1 : len < 1
    · have hres : Hid (mostL (r + 1) l = none) := by show _ = _; rw [HM.out, if_pos (.inl h1)]
      go_enter Try.func22, Try.ntmps22
      go_wp2
      go_ret2
      exact ⟨by rw [hres.out]; rfl, Below.refl _ _⟩
    by_cases h16 : 16 < len
    · have hres : Hid (mostL (r + 1) l = none) := by show _ = _; rw [HM.out, if_pos (.inr h16)]
      go_enter Try.func22, Try.ntmps22
      go_wp2
      go_ret2
      exact ⟨by rw [hres.out]; rfl, Below.refl _ _⟩
    obtain ⟨b, off, rfl, hb, hc, hF⟩ := hcell (by omega)
    go_enter Try.func22, Try.ntmps22
    go_wp2
    go_loopw [6, 25] (fun m i wr => ∃ I S : Nat, I ≤ len ∧ i = .int .i64 (I : Int) ∧ m = .int .u64 (S : Int) ∧ mostSum (mostL r) (l.take I) = some S ∧ S ≤ 68719476744 * I ∧ Below w.heap.size w wr) (fun _ i _ => len - (intOf i).toNat)
    case atStart => exact ⟨0, 0, Nat.zero_le _, rfl, rfl, rfl, Nat.zero_le _, Below.refl _ _⟩
    case round =>
      obtain ⟨I, S, hI, rfl, rfl, hS, hSb, hB⟩ := hrel
      have HS : Hid (mostSum (mostL r) (l.take I) = some S) := hS
      clear hS
      by_cases hlt : I < len
      · obtain ⟨f, hf1⟩ : ∃ f, l[I]? = some f := ⟨l[I], List.getElem?_eq_getElem (by omega)⟩
        have K := Keeps.of_below hB (Nat.le_refl _)
        obtain ⟨c0, c1, c2, ⟨o, c3, hof⟩, hmn, hmx⟩ := (hF I f hf1).keeps K (fun v l h => Flds.keeps K _ v l h)
        have i1 : (I : Int) < (len : Int) := by omega
        have HC : Hid (∀ W, Keeps wr W → Calls Try.prog 30 #[fldV f o, .int .i64 d] W fun e w' => ∃ x : Nat, e = .returned (.tuple #[.int .u64 (x : Int), .bool (mostOne (mostL r) f).isSome]) ∧ (∀ m, mostOne (mostL r) f = some m → x = m) ∧ Below W.heap.size W w') := fun W hW => HF.out f o W hmx (Flds.keeps hW _ _ _ hof)
        unfold fldV at HC
        obtain ⟨ao2, cc2, ho2, _, _⟩ := hof.form
        subst ho2
        have s1 := hB.size
        have HN : Hid (mostOne (mostL r) f = none → mostL (r + 1) l = none) := fun h => by rw [HM.out, if_neg (by omega), mostSum_none _ l I f hf1 h]
        have HA : Hid (∀ a, mostOne (mostL r) f = some a → mostSum (mostL r) (l.take (I + 1)) = some (S + a) ∧ a ≤ 68719476744) := fun a h => ⟨mostSum_snoc _ l I f S a hf1 HS.out h, mostOne_le h⟩
        cases hmo : mostOne (mostL r) f with
        | none =>
          rw [hmo] at HC
          go_wp2_with (go_at_call 30; refine (HC.out _ (by exact Keeps.of_below ((Below.refl wr.heap.size wr).alloc (Nat.le_refl _) _) (Nat.le_refl _))).mono ?_; rintro e w2 ⟨x, rfl, _, hb2⟩)
          go_ret2
          refine ⟨by rw [HN.out hmo]; rfl, ?_⟩
          exact hB.trans ((((Below.refl wr.heap.size wr).alloc (Nat.le_refl _) _).trans (hb2.mono (by simp))).mono s1)
        | some a =>
          rw [hmo] at HC
          have hab := (HA.out a hmo).2
          go_wp2_with (go_at_call 30; refine (HC.out _ (by exact Keeps.of_below ((Below.refl wr.heap.size wr).alloc (Nat.le_refl _) _) (Nat.le_refl _))).mono ?_; rintro e w2 ⟨x, rfl, hx2, hb2⟩; obtain rfl := hx2 a rfl)
          go_roundw
          case rel => exact ⟨I + 1, S + x, hlt, by go_num, by go_num, (HA.out x hmo).1, by omega, hB.trans ((((Below.refl wr.heap.size wr).alloc (Nat.le_refl _) _).trans (hb2.mono (by simp))).mono s1)⟩
          case measure => simp [intOf]; omega
      · have HE : Hid (mostSum (mostL r) l = some S) := by show _ = _; rw [← HS.out, List.take_of_length_le (by omega)]
        have HM2 : Hid (mostL (r + 1) l = if 1048576 < S then none else some S) := by show _ = _; rw [HM.out, if_neg (by omega), HE.out]
        have i1 : ¬ (I : Int) < (len : Int) := by omega
        by_cases hbig : 1048576 < S
        · go_wp2
          go_ret2
          exact ⟨by rw [HM2.out, if_pos hbig]; rfl, hB⟩
        · go_wp2
          go_ret2
          exact ⟨by rw [HM2.out, if_neg hbig]; rfl, hB⟩

set_option maxRecDepth 100000 in
theorem right_any (n : Nat) (v : Value) (l : List Fld) (w : World) (hf : Flds w n v l) :
    Calls Try.prog 11 #[v] w fun e w' => e = .returned (.bool (mostL 4 l).isSome) ∧ Below w.heap.size w w' := by
  obtain ⟨ao, c, rfl, _, _⟩ := hf.form
  go_enter Try.func11, Try.ntmps11
  go_wp2_with (go_at_call 22; refine (mostFs_any 4 (by omega) n _ l _ 1 (by decide) hf).mono ?_; rintro e w1 ⟨rfl, hb1⟩)
  go_ret
  exact ⟨rfl, hb1⟩
set_option maxRecDepth 100000 in
theorem most_any (n : Nat) (v : Value) (l : List Fld) (w : World) (hf : Flds w n v l) :
    Calls Try.prog 13 #[v] w fun e w' => e = .returned (.int .i64 (((mostL 4 l).getD 0 : Nat) : Int)) ∧ Below w.heap.size w w' := by
  obtain ⟨ao, c, rfl, _, _⟩ := hf.form
  have hle : (mostL 4 l).getD 0 ≤ 1048576 := by
    cases hq : mostL 4 l with
    | none => simp
    | some k => exact mostL_le hq
  have HM : Hid (mostFsSaid 4) := mostFs_any 4 (by omega)
  unfold mostFsSaid at HM
  go_enter Try.func13, Try.ntmps13
  go_wp2_with (go_at_call 22; refine (HM.out n _ l _ 1 (by decide) hf).mono ?_; rintro e w1 ⟨rfl, hb1⟩)
  go_ret
  exact ⟨rfl, hb1⟩
end Go.Proofs.Ytjepeonekhhgfaa
