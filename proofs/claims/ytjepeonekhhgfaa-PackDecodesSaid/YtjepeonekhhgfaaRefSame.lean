/-
  What is proved here: the document's Same tells whether two records are the same.
  Conditions: both lie in memory.
-/
import Derived.Test.YtjepeonekhhgfaaLawPackEncodes
import Derived.Deep.QuietTactic
import Derived.BigQuiet
namespace Go.Proofs.Ytjepeonekhhgfaa
open Go.RowKit

/-- Are two records the same? -/
noncomputable def sameB (a b : List Val) : Bool := @decide (a = b) (Classical.propDecidable _)
theorem sameB_yes {a b : List Val} (h : a = b) : sameB a b = true := by unfold sameB; exact @decide_eq_true _ (Classical.propDecidable _) h
theorem sameB_no {a b : List Val} (h : a ≠ b) : sameB a b = false := by unfold sameB; exact @decide_eq_false _ (Classical.propDecidable _) h
theorem Seg.drewN {w : World} {v : Value} {bs : List UInt8} (h : Seg w v bs) (n : Nat) : Seg (w.drewN n) v bs := h
theorem Val.same {x y : Val} (h1 : x.n = y.n) (h2 : x.b = y.b) (h3 : x.l = y.l) : x = y := by
  obtain ⟨a, b, c⟩ := x
  obtain ⟨d, e, f⟩ := y
  simp only [Val.n, Val.b, Val.l] at h1 h2 h3
  rw [h1, h2, h3]
theorem take_step {α : Type} {a b : List α} {I : Nat} {x y : α} (h : a.take I = b.take I) (hx : a[I]? = some x) (hy : b[I]? = some y) (he : x = y) : a.take (I + 1) = b.take (I + 1) := by
  rw [List.take_add_one, List.take_add_one, h, hx, hy, he]
theorem unlike_at {α : Type} {a b : List α} {I : Nat} {x y : α} (hx : a[I]? = some x) (hy : b[I]? = some y) (he : x ≠ y) : a ≠ b := fun h => by
  rw [h, hy] at hx
  exact he (Option.some.inj hx).symm

theorem drewN_drewN (w : World) (a b : Nat) : (w.drewN a).drewN b = w.drewN (a + b) := by
  unfold World.drewN
  simp [Nat.add_assoc]
set_option maxRecDepth 100000 in
set_option maxHeartbeats 4000000 in
theorem same_any (n : Nat) : ∀ (av : Value) (a : List Val) (m : Nat) (bv : Value) (b : List Val) (w : World), Vals w n av a → Vals w m bv b → Calls Try.prog 20 #[av, bv] w fun e w' => e = .returned (.bool (sameB a b)) ∧ ∃ m, w' = w.drewN m := by
  induction n with
  | zero =>
    rintro av a m bv b w ⟨rfl, rfl⟩ hb
    obtain ⟨ao, c, rfl, hbl, _⟩ := hb.form
    unfold maxLen at hbl
    by_cases h0 : b.length = 0
    · obtain rfl : b = [] := List.length_eq_zero_iff.1 h0
      have HT : Hid (sameB [] [] = true) := sameB_yes rfl
      go_enter Try.func20, Try.ntmps20
      go_wp2
      refine wp_loop_rounds 1 ?_
      rw [rounds_succ]
      go_wp2
      go_ret
      exact ⟨by rw [HT.out]; rfl, 0, rfl⟩
    · have HB : Hid (sameB [] b = false) := sameB_no (fun h => h0 (by rw [← h]; rfl))
      obtain ⟨bl, hble⟩ : ∃ bl, b.length = bl := ⟨_, rfl⟩
      rw [hble] at h0 hbl ⊢
      have i1 : ((0 : Int) != (bl : Int)) = true := by rw [bne_iff_ne]; omega
      clear hble hb
      go_enter Try.func20, Try.ntmps20
      go_wp2
      all_goals first
        | (go_ret; exact ⟨by rw [HB.out]; rfl, 0, rfl⟩)
        | (exfalso; omega)
  | succ n ih =>
    intro av a m bv b w ha hb
    obtain ⟨aa, ac, rfl, hal, hac⟩ := ha
    obtain ⟨ba, bc, rfl, hbl, hbc⟩ := hb.form
    unfold maxLen at hal hbl
    by_cases hlen : a.length = b.length
    · obtain ⟨len, hle⟩ : ∃ len, a.length = len := ⟨_, rfl⟩
      have hle2 : b.length = len := by omega
      rw [hle] at hal hac ⊢
      rw [hle2] at hbl hbc ⊢
      have HLE : Hid (a.length = len ∧ b.length = len) := ⟨hle, hle2⟩
      clear hlen hle hle2 hb
      go_enter Try.func20, Try.ntmps20
      go_wp2
      go_loopw [5] (fun i wr => ∃ I : Nat, I ≤ len ∧ i = .int .i64 (I : Int) ∧ a.take I = b.take I ∧ ∃ nq, wr = w.drewN nq) (fun i _ => len - (intOf i).toNat)
      case atStart => exact ⟨0, Nat.zero_le _, rfl, rfl, 0, rfl⟩
      case round =>
        obtain ⟨I, hI, rfl, htk, nq, rfl⟩ := hrel
        have HT : Hid (a.take I = b.take I) := htk
        clear htk
        by_cases hlt : I < len
        · obtain ⟨bA, offA, rfl, hbA, hcA, hA⟩ := hac (by omega)
          obtain ⟨bB, offB, rfl, hbB, hcB, hBv⟩ := hbc (by omega)
          obtain ⟨x, hx1⟩ : ∃ x, a[I]? = some x := ⟨a[I]'(by have := HLE.out.1; omega), List.getElem?_eq_getElem (by have := HLE.out.1; omega)⟩
          obtain ⟨y, hy1⟩ : ∃ y, b[I]? = some y := ⟨b[I]'(by have := HLE.out.2; omega), List.getElem?_eq_getElem (by have := HLE.out.2; omega)⟩
          obtain ⟨x0, ⟨xv, x1, hxv, hxbl⟩, ⟨xal, xcl, x2, hxll, hxrec⟩, hxn⟩ := hA I x hx1
          obtain ⟨y0, ⟨yv, y1, hyv, hybl⟩, ⟨yal, ycl, y2, hyll, hyrec⟩, hyn⟩ := hBv I y hy1
          unfold maxLen at hxbl hybl hxll hyll
          have HK : Hid (x ≠ y → a ≠ b) := fun h => unlike_at hx1 hy1 h
          have HS : Hid (x = y → a.take (I + 1) = b.take (I + 1)) := fun h => take_step HT.out hx1 hy1 h
          have q1 := fun k => seg_string (hxv.drewN k) 9 Try.underlying9
          have q2 := fun k => seg_string (hyv.drewN k) 9 Try.underlying9
          have i1 : (I : Int) < (len : Int) := by omega
          have HQ : Hid (((⟨x.b.toArray⟩ : ByteArray).toList == (⟨y.b.toArray⟩ : ByteArray).toList) = decide (x.b = y.b)) := str_beq x.b y.b
          generalize (⟨x.b.toArray⟩ : ByteArray) = BX at q1 HQ
          generalize (⟨y.b.toArray⟩ : ByteArray) = BY at q2 HQ
          by_cases hn : x.n = y.n
          · by_cases hb : x.b = y.b
            · have hq := HQ.out
              rw [decide_eq_true hb] at hq
              have hq' : (BX.toList == BY.toList) = true := hq
              have j1 : ((x.n : Int) != (y.n : Int)) = false := by rw [hn]; simp
              by_cases hl : x.l.length = y.l.length
              · obtain ⟨LL, hLL⟩ : ∃ LL, x.l.length = LL := ⟨_, rfl⟩
                have hLL2 : y.l.length = LL := by omega
                have HXY : Hid (x.n = y.n ∧ x.b = y.b ∧ x.l.length = LL ∧ y.l.length = LL) := ⟨hn, hb, hLL, hLL2⟩
                rw [hLL] at hxll hxrec x2
                rw [hLL2] at hyll hyrec y2
                have HIH : Hid (∀ (rv : Value) (ra : List Val) (sv : Value) (rb : List Val) (W : World), Vals W n rv ra → Vals W (m - 1) sv rb → Calls Try.prog 20 #[rv, sv] W fun e w' => e = .returned (.bool (sameB ra rb)) ∧ ∃ m, w' = W.drewN m) := fun rv ra sv rb W h1 h2 => ih rv ra (m - 1) sv rb W h1 h2
                clear hq HQ hn hb hl hLL hLL2
                go_wp2
                go_quiet (fail)
                go_wp2
                go_loopw [6] (fun i wr => ∃ k : Nat, k ≤ LL ∧ i = .int .i64 (k : Int) ∧ x.l.take k = y.l.take k ∧ ∃ nq, wr = w.drewN nq) (fun i _ => LL - (intOf i).toNat)
                case atStart => exact ⟨0, Nat.zero_le _, rfl, rfl, _, drewN_drewN _ _ _⟩
                case round =>
                  obtain ⟨k, hk, rfl, htk2, nr, rfl⟩ := hrel
                  have HT2 : Hid (x.l.take k = y.l.take k) := htk2
                  clear htk2
                  by_cases hlk : k < LL
                  · obtain ⟨bX, offX, rfl, hbX, hcX, hX⟩ := hxrec (by omega)
                    obtain ⟨bY, offY, rfl, hbY, hcY, hY⟩ := hyrec (by omega)
                    obtain ⟨ra, hra⟩ : ∃ ra, x.l[k]? = some ra := ⟨x.l[k]'(by have := HXY.out.2.2.1; omega), List.getElem?_eq_getElem (by have := HXY.out.2.2.1; omega)⟩
                    obtain ⟨rb, hrb⟩ : ∃ rb, y.l[k]? = some rb := ⟨y.l[k]'(by have := HXY.out.2.2.2; omega), List.getElem?_eq_getElem (by have := HXY.out.2.2.2; omega)⟩
                    obtain ⟨rv, r1, r2⟩ := hX k ra hra
                    obtain ⟨sv, t1, t2⟩ := hY k rb hrb
                    have ik : (k : Int) < (LL : Int) := by omega
                    obtain ⟨wq, hwq⟩ : ∃ wq, wq = w.drewN nr := ⟨_, rfl⟩
                    rw [← hwq]
                    have HC : Hid (∀ j, Calls Try.prog 20 #[rv, sv] (wq.drewN j) fun e w' => e = .returned (.bool (sameB ra rb)) ∧ ∃ m, w' = (wq.drewN j).drewN m) := fun j => by
                      rw [hwq]
                      exact HIH.out rv ra sv rb _ (Vals.keeps ((Keeps.drewN w nr).trans (Keeps.drewN _ j)) _ _ _ r2) (Vals.keeps ((Keeps.drewN w nr).trans (Keeps.drewN _ j)) _ _ _ t2)
                    have g1 : wq.cell? ⟨bA, offA + I * 3 + 2, none⟩ = some (.slice (some ⟨bX, offX, none⟩) LL xcl) := by rw [hwq]; exact x2
                    have g2 : wq.cell? ⟨bB, offB + I * 3 + 2, none⟩ = some (.slice (some ⟨bY, offY, none⟩) LL ycl) := by rw [hwq]; exact y2
                    have g3 : wq.cell? ⟨bX, offX + k, none⟩ = some rv := by rw [hwq]; exact r1
                    have g4 : wq.cell? ⟨bY, offY + k, none⟩ = some sv := by rw [hwq]; exact t1
                    have HWQ : Hid (wq = w.drewN nr) := hwq
                    clear hwq
                    by_cases hsm : ra = rb
                    · have hS := sameB_yes hsm
                      have HST : Hid (x.l.take (k + 1) = y.l.take (k + 1)) := take_step HT2.out hra hrb hsm
                      rw [hS] at HC
                      clear hsm hS
                      go_wp2_with fail
                      go_quiet (first | (go_at_call 20; refine Calls.quiet_of (HC.out _)))
                      go_wp2
                      go_roundw
                      case rel => exact ⟨k + 1, hlk, by go_num, HST.out, _, by rw [HWQ.out]; exact drewN_drewN _ _ _⟩
                      case measure => simp [intOf]; omega
                    · have hS := sameB_no hsm
                      have hno : Hid (a ≠ b) := HK.out (fun h => unlike_at hra hrb hsm (by rw [h]))
                      rw [hS] at HC
                      clear hsm hS
                      go_wp2_with fail
                      go_quiet (first | (go_at_call 20; refine Calls.quiet_of (HC.out _)))
                      go_wp2
                      go_ret
                      exact ⟨by rw [sameB_no hno.out]; rfl, _, by rw [HWQ.out]; exact drewN_drewN _ _ _⟩
                  · have HXE : Hid (x = y) := by
                      show _ = _
                      have h := HT2.out
                      rw [List.take_of_length_le (by have := HXY.out.2.2.1; omega), List.take_of_length_le (by have := HXY.out.2.2.2; omega)] at h
                      exact Val.same HXY.out.1 HXY.out.2.1 h
                    have ik : ¬ (k : Int) < (LL : Int) := by omega
                    go_wp2
                    go_roundw
                    case rel => exact ⟨I + 1, hlt, by go_num, HS.out HXE.out, nr, rfl⟩
                    case measure => simp [intOf]; omega
              · have hno : Hid (a ≠ b) := HK.out (fun h => hl (by rw [h]))
                have j2 : ((x.l.length : Int) != (y.l.length : Int)) = true := by rw [bne_iff_ne]; omega
                clear hq HQ hn hb
                go_wp2
                go_quiet (fail)
                go_wp2
                go_ret
                exact ⟨by rw [sameB_no hno.out]; rfl, _, drewN_drewN _ _ _⟩
            · have hno : Hid (a ≠ b) := HK.out (fun h => hb (by rw [h]))
              have hq := HQ.out
              rw [decide_eq_false hb] at hq
              have hq' : (BX.toList == BY.toList) = false := hq
              have j1 : ((x.n : Int) != (y.n : Int)) = false := by rw [hn]; simp
              clear hq HQ hn hb
              go_wp2
              go_quiet (fail)
              go_wp2
              go_ret
              exact ⟨by rw [sameB_no hno.out]; rfl, _, drewN_drewN _ _ _⟩
          · have hno : Hid (a ≠ b) := HK.out (fun h => hn (by rw [h]))
            have j1 : ((x.n : Int) != (y.n : Int)) = true := by rw [bne_iff_ne]; omega
            go_wp2
            go_quiet (fail)
            go_wp2
            go_ret
            exact ⟨by rw [sameB_no hno.out]; rfl, _, drewN_drewN _ _ _⟩
        · have HE : Hid (a = b) := by
            show _ = _
            have h := HT.out
            rw [List.take_of_length_le (by have := HLE.out.1; omega), List.take_of_length_le (by have := HLE.out.2; omega)] at h
            exact h
          have i1 : ¬ (I : Int) < (len : Int) := by omega
          go_wp2
          go_ret
          exact ⟨by rw [sameB_yes HE.out]; rfl, nq, rfl⟩
    · have HN : Hid (a ≠ b) := fun h => hlen (by rw [h])
      have i1 : ((a.length : Int) != (b.length : Int)) = true := by rw [bne_iff_ne]; omega
      go_enter Try.func20, Try.ntmps20
      go_wp2
      go_ret
      exact ⟨by rw [sameB_no HN.out]; rfl, 0, rfl⟩
end Go.Proofs.Ytjepeonekhhgfaa
