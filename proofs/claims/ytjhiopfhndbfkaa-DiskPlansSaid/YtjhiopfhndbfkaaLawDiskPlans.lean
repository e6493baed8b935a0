/-
  What is proved here: of all plans, the statement DiskPlans answers true: of changes to come just that one fails which the plan tells, and behind the one at which the power goes none is done.
  Conditions: none.
-/
import Derived.Test.YtjhiopfhndbfkaaPDiskAwake
import Derived.BigQuiet
import Derived.Deep.QuietTactic
namespace Go.Proofs.Ytjhiopfhndbfkaa
open Go.RowKit Go.Maps

theorem writeS_may (s : DS) (y : UInt8) (h : 0 < s.now.length) : writeS s 0 [y] = if (mayS s).1 ≠ 0 then mayS s else (0, putS (mayS s).2 0 [y]) := by
  unfold writeS
  rw [if_neg (by rintro (h1 | h1 | h1); omega; omega; simp at h1)]
  rfl
theorem readS_down {s : DS} (h : s.down = true) (k : Int) : readS s k = ([], 7) := by unfold readS; rw [h]; rfl
theorem readS_zero {s : DS} (h : s.down = false) (hl : 0 < s.now.length) : readS s 0 = (s.now.getD 0 [], 0) := by
  unfold readS
  rw [h, if_neg (by simp), if_neg (by omega)]
  rfl
/-- How far a plan is gone, what it left, what stands in the first sector. -/
structure AtP (s : DS) (p : List UInt8) (i : Nat) (off : Bool) (lb : UInt8) : Prop where
  down : s.down = off
  two : 0 < s.now.length
  next : off = false → s.next = p.drop i
  last : off = false → ∃ r, s.now.getD 0 [] = lb :: r
theorem drop_tail (p : List UInt8) (i : Nat) : (p.drop i).tail = p.drop (i + 1) := by rw [List.tail_drop]
theorem AtP.offs {s : DS} {p : List UInt8} {i : Nat} {lb : UInt8} (h : AtP s p i true lb) (y : UInt8) : writeS s 0 [y] = (7, s) ∧ readS s 0 = ([], 7) ∧ AtP s p (i + 1) true lb := by
  refine ⟨?_, readS_down h.down 0, ⟨h.down, h.two, fun e => by (cases e), fun e => by cases e⟩⟩
  rw [writeS_may s y h.two, mayS_eq, h.down]
  rfl
theorem AtP.two2 {s : DS} {p : List UInt8} {i : Nat} {lb : UInt8} (h : AtP s p i false lb) (h2 : (p.drop i).headD 0 = 2) (y : UInt8) : ∃ t, writeS s 0 [y] = (7, t) ∧ readS t 0 = ([], 7) ∧ AtP t p (i + 1) true lb := by
  refine ⟨{ s with next := p.drop (i + 1), down := true }, ?_, readS_down rfl 0, ⟨rfl, h.two, fun e => by (cases e), fun e => by cases e⟩⟩
  rw [writeS_may s y h.two, mayS_eq, h.down, h.next rfl, h2, drop_tail]
  rfl
theorem AtP.one1 {s : DS} {p : List UInt8} {i : Nat} {lb : UInt8} (h : AtP s p i false lb) (h2 : (p.drop i).headD 0 = 1) (y : UInt8) : ∃ t r, writeS s 0 [y] = (6, t) ∧ readS t 0 = (lb :: r, 0) ∧ AtP t p (i + 1) false lb := by
  obtain ⟨r, hr⟩ := h.last rfl
  refine ⟨{ s with next := p.drop (i + 1) }, r, ?_, ?_, ⟨h.down, h.two, fun _ => rfl, fun _ => ⟨r, hr⟩⟩⟩
  · rw [writeS_may s y h.two, mayS_eq, h.down, h.next rfl, h2, drop_tail]
    rfl
  · rw [readS_zero (by exact h.down) (by exact h.two)]
    show (s.now.getD 0 [], (0 : Int)) = _
    rw [hr]
theorem AtP.zero0 {s : DS} {p : List UInt8} {i : Nat} {lb : UInt8} (h : AtP s p i false lb) (h1 : (p.drop i).headD 0 ≠ 1) (h2 : (p.drop i).headD 0 ≠ 2) (y : UInt8) : ∃ t r, writeS s 0 [y] = (0, t) ∧ readS t 0 = (y :: r, 0) ∧ AtP t p (i + 1) false y := by
  have e : mayS s = (0, { s with next := p.drop (i + 1) }) := by
    rw [mayS_eq, h.down, h.next rfl, drop_tail, if_neg (by simp), if_neg h1, if_neg h2]
  have hg : (putS { s with next := p.drop (i + 1) } 0 [y]).now.getD 0 [] = y :: noughts 127 := by
    show (s.now.set 0 (padS [y])).getD 0 [] = _
    rw [getD_set _ _ _ _ _ h.two, if_pos rfl]
    rfl
  refine ⟨putS { s with next := p.drop (i + 1) } 0 [y], noughts 127, ?_, ?_, ⟨h.down, ?_, fun _ => rfl, fun _ => ⟨_, hg⟩⟩⟩
  · rw [writeS_may s y h.two, e]
    rfl
  · rw [readS_zero (by exact h.down) (by show 0 < (s.now.set _ _).length; rw [List.length_set]; exact h.two), hg]
  · show 0 < (s.now.set _ _).length
    rw [List.length_set]; exact h.two
theorem head_drop (p : List UInt8) (i : Nat) (h : i < p.length) : (p.drop i).headD 0 = p[i] := by
  rw [List.drop_eq_getElem_cons h]; rfl
theorem head_drop0 (p : List UInt8) (i : Nat) (h : ¬ i < p.length) : (p.drop i).headD 0 = 0 := by
  rw [List.drop_eq_nil_of_le (by omega)]; rfl
theorem n8_ne {x y : UInt8} (h : x ≠ y) : (n8 x == n8 y) = false := by
  simp only [beq_eq_false_iff_ne, ne_eq, n8]
  intro e
  exact h (UInt8.toNat_inj.1 (by omega))

theorem byte_up (I : Nat) (h : I < 255) : ∃ y : UInt8, (I : Int) + 1 = n8 y := by
  refine ⟨UInt8.ofNat (I + 1), ?_⟩
  have e : (UInt8.ofNat (I + 1)).toNat = I + 1 := by
    rw [UInt8.toNat_ofNat']
    exact Nat.mod_eq_of_lt (by omega)
  unfold n8
  rw [e]
  omega

set_option maxRecDepth 100000 in
set_option maxHeartbeats 8000000 in
theorem diskPlans_any (x : Value) (bs : List UInt8) (ao : Option Addr) (len c : Nat) (w : World) (hx : x = .slice ao len c) (hl : bs.length = len) (hm : len ≤ maxLen) (hseg : Seg w x bs) :
    Calls Try.prog 8 #[x] w fun e w' => e = .returned (.bool true) ∧ Below w.heap.size w w' := by
  subst hx
  unfold maxLen at hm
  go_enter Try.func8, Try.ntmps8
  go_wp2_with fail
  refine (awake5_any _).mono ?_
  rintro e w1 ⟨rfl, hb1⟩
  go_wp2_with fail
  refine (new_at 2 2 rfl _ (by decide) (by decide)).mono ?_
  rintro e w2 ⟨L, rfl, hn, hD2, hb2, hT2, -⟩
  have hT : ∀ q, L.T q → w.heap.size ≤ q := fun q hq => Nat.le_trans hb1.size (hT2 q hq)
  have hB2 : Below w.heap.size w w2 := hb1.trans (hb2.mono hb1.size)
  clear hb1 hb2 hT2
  by_cases hbig : 250 < len
  · go_wp2
    go_ret
    exact ⟨rfl, hB2⟩
  go_wp2_with fail
  refine (plan_any L (newS 2) _ bs _ hD2 (hseg.below hB2 (Nat.le_refl _)) (by omega)).mono ?_
  rintro e w3 ⟨rfl, hD3, hc3⟩
  have hB3 : Below w.heap.size w w3 := below_chg hB2 hc3 (fun q hq => hT q (.inl hq)) (Nat.le_refl _)
  have hP3 : AtP { newS 2 with next := bs } bs 0 false 0 := ⟨rfl, by show 0 < (newS 2).now.length; decide, fun _ => rfl, fun _ => ⟨noughts 127, rfl⟩⟩
  clear hD2 hc3 hB2
  go_wp2_with fail
  go_loopw [6, 7, 8] (fun o l i wr => ∃ (I : Nat) (off : Bool) (lb : UInt8) (s : DS), I ≤ len + 3 ∧ i = .int .i64 (I : Int) ∧ o = .bool off ∧ l = .int .u8 (n8 lb) ∧ AtP s bs I off lb ∧ PDisk wr L s ∧ Below w.heap.size w wr) (fun _ _ i _ => len + 3 - (intOf i).toNat)
  case atStart => exact ⟨0, false, 0, _, Nat.zero_le _, rfl, rfl, rfl, hP3, hD3, hB3⟩
  case round =>
    obtain ⟨I, off, lb, s, hI, rfl, rfl, rfl, hP, hD, hB⟩ := hrel
    clear hD3 hB3 hP3
    by_cases hlt : I < len + 3
    case neg =>
      have i1 : ¬ (I : Int) < (len : Int) + 3 := by omega
      go_wp2
      go_ret
      exact ⟨rfl, hB⟩
    have i1 : (I : Int) < (len : Int) + 3 := by omega
    obtain ⟨y, hy⟩ := byte_up I (by omega)
    have HY : Hid ((I : Int) + 1 = n8 y) := hy
    clear hy
    have hA : ∀ W : World, PDisk W L s → ∀ (t : DS) (f : Int), writeS s 0 [y] = (f, t) → Calls Try.prog 23 #[.pointer (some ⟨L.g, 0, none⟩), .int .i64 0, .slice (some ⟨W.heap.size, 0, none⟩) 1 1] (W.alloc (.cells #[.int .u8 (n8 y)] 5)) fun e w' => e = .returned (.int .i64 f) ∧ PDisk w' L t ∧ Chg L.T (W.alloc (.cells #[.int .u8 (n8 y)] 5)) w' := fun W hW t f hwt => by
      have := write_any L s 0 _ [y] _ (hW.after ((Below.refl _ W).alloc (Nat.le_refl _) (.cells ([y].map v8).toArray 5))) (own_new W [y]) (fun _ q hq e => by have := hW.lt q e; simp [Value.ownBlock] at hq; omega)
      rw [hwt] at this
      exact this
    have hR : ∀ (W : World) (t : DS) (r : List UInt8) (f : Int), PDisk W L t → readS t 0 = (r, f) → Calls Try.prog 19 #[.pointer (some ⟨L.g, 0, none⟩), .int .i64 0] W fun e w' => ∃ v, e = .returned (.tuple #[v, .int .i64 f]) ∧ Own w' W.heap.size v r ∧ Below W.heap.size W w' := fun W t r f hW hrt => by
      have := read_any L t 0 W hW
      rw [hrt] at this
      exact this
    have HA : Hid _ := hA
    have HR : Hid _ := hR
    have hD' := hD
    clear hA hR
    by_cases hin : I < len
    · have i2 : (I : Int) < (len : Int) := by omega
      obtain ⟨b0, off0, rfl, hlc, hrow, hbl⟩ := (hseg.below hB (Nat.le_refl _)).formD (by omega)
      have dx := hrow I (by omega)
      have hhd := head_drop bs I (by omega)
      generalize bs[I] = X at dx hhd
      cases off with
      | true =>
        obtain ⟨hw, hr, hP2⟩ := hP.offs y
        by_cases h2 : X = 2
        · subst h2
          go_wp2_with fail
          rw [show Value.int .u8 ((I : Int) + 1) = .int .u8 (n8 y) from by rw [HY.out]]
          refine (HA.out _ hD s 7 hw).mono ?_
          rintro e w5 ⟨rfl, hD5, hc5⟩
          have hB5 : Below w.heap.size w w5 := below_chg (hB.alloc hB.size _) hc5 hT (Nat.le_refl _)
          clear hc5 hD hB
          go_wp2_with fail
          refine (HR.out _ s _ _ hD5 hr).mono ?_
          rintro e w6 ⟨v6, rfl, ho6, hb6⟩
          have hD6 := hD5.after hb6
          have hB6 : Below w.heap.size w w6 := hB5.trans (hb6.mono hB5.size)
          obtain ⟨xv6, hx6, -⟩ := hD6.head
          unfold PLay.head at hx6
          have c6 := hx6.cell (j := 3) rfl
          rw [hP2.down] at c6
          go_wp2
          go_roundw
          case rel => exact ⟨I + 1, true, lb, s, by omega, by go_num, rfl, rfl, hP2, hD6, hB6⟩
          case measure => simp [intOf]; omega
        · have n2 := n8_ne h2
          have n2' : (n8 X == 2) = false := n2
          go_wp2_with fail
          rw [show Value.int .u8 ((I : Int) + 1) = .int .u8 (n8 y) from by rw [HY.out]]
          refine (HA.out _ hD s 7 hw).mono ?_
          rintro e w5 ⟨rfl, hD5, hc5⟩
          have hB5 : Below w.heap.size w w5 := below_chg (hB.alloc hB.size _) hc5 hT (Nat.le_refl _)
          clear hc5 hD hB
          go_wp2_with fail
          refine (HR.out _ s _ _ hD5 hr).mono ?_
          rintro e w6 ⟨v6, rfl, ho6, hb6⟩
          have hD6 := hD5.after hb6
          have hB6 : Below w.heap.size w w6 := hB5.trans (hb6.mono hB5.size)
          obtain ⟨xv6, hx6, -⟩ := hD6.head
          unfold PLay.head at hx6
          have c6 := hx6.cell (j := 3) rfl
          rw [hP2.down] at c6
          go_wp2
          go_roundw
          case rel => exact ⟨I + 1, true, lb, s, by omega, by go_num, rfl, rfl, hP2, hD6, hB6⟩
          case measure => simp [intOf]; omega
      | false =>
        by_cases h2 : X = 2
        · subst h2
          obtain ⟨t, hw, hr, hP2⟩ := hP.two2 hhd y
          go_wp2_with fail
          rw [show Value.int .u8 ((I : Int) + 1) = .int .u8 (n8 y) from by rw [HY.out]]
          refine (HA.out _ hD t 7 hw).mono ?_
          rintro e w5 ⟨rfl, hD5, hc5⟩
          have hB5 : Below w.heap.size w w5 := below_chg (hB.alloc hB.size _) hc5 hT (Nat.le_refl _)
          clear hc5 hD hB
          go_wp2_with fail
          refine (HR.out _ t _ _ hD5 hr).mono ?_
          rintro e w6 ⟨v6, rfl, ho6, hb6⟩
          have hD6 := hD5.after hb6
          have hB6 : Below w.heap.size w w6 := hB5.trans (hb6.mono hB5.size)
          obtain ⟨xv6, hx6, -⟩ := hD6.head
          unfold PLay.head at hx6
          have c6 := hx6.cell (j := 3) rfl
          rw [hP2.down] at c6
          go_wp2
          go_roundw
          case rel => exact ⟨I + 1, true, lb, t, by omega, by go_num, rfl, rfl, hP2, hD6, hB6⟩
          case measure => simp [intOf]; omega
        by_cases h1 : X = 1
        · subst h1
          obtain ⟨t, r, hw, hr, hP2⟩ := hP.one1 hhd y
          go_wp2_with fail
          rw [show Value.int .u8 ((I : Int) + 1) = .int .u8 (n8 y) from by rw [HY.out]]
          refine (HA.out _ hD t 6 hw).mono ?_
          rintro e w5 ⟨rfl, hD5, hc5⟩
          have hB5 : Below w.heap.size w w5 := below_chg (hB.alloc hB.size _) hc5 hT (Nat.le_refl _)
          clear hc5 hD hB
          go_wp2_with fail
          refine (HR.out _ t _ _ hD5 hr).mono ?_
          rintro e w6 ⟨v6, rfl, ho6, hb6⟩
          have hD6 := hD5.after hb6
          have hB6 : Below w.heap.size w w6 := hB5.trans (hb6.mono hB5.size)
          obtain ⟨xv6, hx6, -⟩ := hD6.head
          unfold PLay.head at hx6
          have c6 := hx6.cell (j := 3) rfl
          rw [hP2.down] at c6
          obtain ⟨g6, cc6, rfl, -, -, -, hr6⟩ := ho6.form (by simp)
          have d6 := hr6 0 (by simp)
          rw [List.getElem_cons_zero] at d6
          go_wp2
          go_roundw
          case rel => exact ⟨I + 1, false, lb, t, by omega, by go_num, rfl, rfl, hP2, hD6, hB6⟩
          case measure => simp [intOf]; omega
        · have n2' : (n8 X == 2) = false := n8_ne h2
          have n1' : (n8 X == 1) = false := n8_ne h1
          obtain ⟨t, r, hw, hr, hP2⟩ := hP.zero0 (by rw [hhd]; exact h1) (by rw [hhd]; exact h2) y
          go_wp2_with fail
          rw [show Value.int .u8 ((I : Int) + 1) = .int .u8 (n8 y) from by rw [HY.out]]
          refine (HA.out _ hD t 0 hw).mono ?_
          rintro e w5 ⟨rfl, hD5, hc5⟩
          have hB5 : Below w.heap.size w w5 := below_chg (hB.alloc hB.size _) hc5 hT (Nat.le_refl _)
          clear hc5 hD hB
          go_wp2_with fail
          refine (HR.out _ t _ _ hD5 hr).mono ?_
          rintro e w6 ⟨v6, rfl, ho6, hb6⟩
          have hD6 := hD5.after hb6
          have hB6 : Below w.heap.size w w6 := hB5.trans (hb6.mono hB5.size)
          obtain ⟨xv6, hx6, -⟩ := hD6.head
          unfold PLay.head at hx6
          have c6 := hx6.cell (j := 3) rfl
          rw [hP2.down] at c6
          obtain ⟨g6, cc6, rfl, -, -, -, hr6⟩ := ho6.form (by simp)
          have d6 := hr6 0 (by simp)
          rw [List.getElem_cons_zero] at d6
          go_wp2
          go_roundw
          case rel => exact ⟨I + 1, false, y, t, by omega, by go_num, rfl, rfl, hP2, hD6, hB6⟩
          case measure => simp [intOf]; omega
    · have i2 : ¬ (I : Int) < (len : Int) := by omega
      have hhd := head_drop0 bs I (by omega)
      cases off with
      | true =>
        obtain ⟨hw, hr, hP2⟩ := hP.offs y
        go_wp2_with fail
        rw [show Value.int .u8 ((I : Int) + 1) = .int .u8 (n8 y) from by rw [HY.out]]
        refine (HA.out _ hD s 7 hw).mono ?_
        rintro e w5 ⟨rfl, hD5, hc5⟩
        have hB5 : Below w.heap.size w w5 := below_chg (hB.alloc hB.size _) hc5 hT (Nat.le_refl _)
        clear hc5 hD hB
        go_wp2_with fail
        refine (HR.out _ s _ _ hD5 hr).mono ?_
        rintro e w6 ⟨v6, rfl, ho6, hb6⟩
        have hD6 := hD5.after hb6
        have hB6 : Below w.heap.size w w6 := hB5.trans (hb6.mono hB5.size)
        obtain ⟨xv6, hx6, -⟩ := hD6.head
        unfold PLay.head at hx6
        have c6 := hx6.cell (j := 3) rfl
        rw [hP2.down] at c6
        go_wp2
        go_roundw
        case rel => exact ⟨I + 1, true, lb, s, by omega, by go_num, rfl, rfl, hP2, hD6, hB6⟩
        case measure => simp [intOf]; omega
      | false =>
        obtain ⟨t, r, hw, hr, hP2⟩ := hP.zero0 (by rw [hhd]; decide) (by rw [hhd]; decide) y
        go_wp2_with fail
        rw [show Value.int .u8 ((I : Int) + 1) = .int .u8 (n8 y) from by rw [HY.out]]
        refine (HA.out _ hD t 0 hw).mono ?_
        rintro e w5 ⟨rfl, hD5, hc5⟩
        have hB5 : Below w.heap.size w w5 := below_chg (hB.alloc hB.size _) hc5 hT (Nat.le_refl _)
        clear hc5 hD hB
        go_wp2_with fail
        refine (HR.out _ t _ _ hD5 hr).mono ?_
        rintro e w6 ⟨v6, rfl, ho6, hb6⟩
        have hD6 := hD5.after hb6
        have hB6 : Below w.heap.size w w6 := hB5.trans (hb6.mono hB5.size)
        obtain ⟨xv6, hx6, -⟩ := hD6.head
        unfold PLay.head at hx6
        have c6 := hx6.cell (j := 3) rfl
        rw [hP2.down] at c6
        obtain ⟨g6, cc6, rfl, -, -, -, hr6⟩ := ho6.form (by simp)
        have d6 := hr6 0 (by simp)
        rw [List.getElem_cons_zero] at d6
        go_wp2
        go_roundw
        case rel => exact ⟨I + 1, false, y, t, by omega, by go_num, rfl, rfl, hP2, hD6, hB6⟩
        case measure => simp [intOf]; omega
end Go.Proofs.Ytjhiopfhndbfkaa
