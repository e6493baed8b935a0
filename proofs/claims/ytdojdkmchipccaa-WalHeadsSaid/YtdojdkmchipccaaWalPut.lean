/-
  What is proved here: a head and a piece, written on an empty disk of 20 sectors, and what is found there.
  Conditions: those that each fact names.
-/
import Derived.Test.YtdojdkmchipccaaWalOff
namespace Go.Proofs.Ytdojdkmchipccaa
open Go.RowKit

theorem DiskAt.x {B : Nat} {w w' : World} {L : PLay} {s : DS} {v : Value} {bs : List UInt8} (h : DiskAt B w L s) (hb : Below w.heap.size w w') (hO : Own w' w.heap.size v bs) : DiskX B (OwnOf v) w' L s := by
  obtain ⟨C, h1, h2, h3⟩ := h
  exact ⟨C, h1.after hb, fun q hq => ⟨h2 q hq, fun e => by have := (hO.blocks q e).1; have := h1.lt q hq; omega⟩, fun q hq => (hO.blocks q hq).2, Nat.le_trans h3 hb.size⟩
theorem DiskX.after {B : Nat} {D : Nat → Prop} {w w' : World} {L : PLay} {s : DS} (h : DiskX B D w L s) (hb : Below w.heap.size w w') : DiskX B D w' L s := by
  obtain ⟨C, h1, h2, h3, h4⟩ := h
  exact ⟨C, h1.after hb, h2, fun q hq => Nat.lt_of_lt_of_le (h3 q hq) hb.size, Nat.le_trans h4 hb.size⟩
/-- What was made behind the disk is written. -/
theorem x_write {B : Nat} {D : Nat → Prop} {w0 w : World} {L : PLay} {s : DS} (h : DiskX B D w0 L s) (hb : Below w0.heap.size w0 w) (k : Int) (v : Value) (bs : List UInt8) (hO : Own w w0.heap.size v bs) :
    Calls Try.prog 9 #[.pointer (some ⟨L.g, 0, none⟩), .int .i64 k, v] w fun e w' => e = .returned (.int .i64 (writeS s k bs).1) ∧ DiskX B D w' L (writeS s k bs).2 ∧ Chg (Off B D) w w' := by
  obtain ⟨C, h1, h2, h3, h4⟩ := h
  have hw : ∀ q, D q → q < w.heap.size := fun q hq => Nat.lt_of_lt_of_le (h3 q hq) hb.size
  refine (od_write L C s k v bs w (h1.after hb) hO.seg (fun _ q hq e => by have := (hO.blocks q hq).1; have := h1.lt q e; omega)).mono ?_
  rintro e w' ⟨rfl, hP, hc⟩
  exact ⟨rfl, ⟨_, hP, x_fr h2 hw (Nat.le_trans h4 hb.size), fun q hq => Nat.lt_of_lt_of_le (hw q hq) hc.size, Nat.le_trans (Nat.le_trans h4 hb.size) hc.size⟩, hc.weaken h2⟩
/-- What is kept is written. -/
theorem x_writeD {B : Nat} {w : World} {L : PLay} {s : DS} {v : Value} (h : DiskX B (OwnOf v) w L s) (k : Int) (bs : List UInt8) (hS : Seg w v bs) :
    Calls Try.prog 9 #[.pointer (some ⟨L.g, 0, none⟩), .int .i64 k, v] w fun e w' => e = .returned (.int .i64 (writeS s k bs).1) ∧ DiskX B (OwnOf v) w' L (writeS s k bs).2 ∧ Chg (Off B (OwnOf v)) w w' := by
  obtain ⟨C, h1, h2, h3, h4⟩ := h
  refine (od_write L C s k v bs w h1 hS (fun _ q hq e => (h2 q e).2 hq)).mono ?_
  rintro e w' ⟨rfl, hP, hc⟩
  exact ⟨rfl, ⟨_, hP, x_fr h2 h3 h4, fun q hq => Nat.lt_of_lt_of_le (h3 q hq) hc.size, Nat.le_trans h4 hc.size⟩, hc.weaken h2⟩
theorem x_sync {B : Nat} {D : Nat → Prop} {w : World} {L : PLay} {s : DS} (h : DiskX B D w L s) :
    Calls Try.prog 15 #[.pointer (some ⟨L.g, 0, none⟩)] w fun e w' => e = .returned (.int .i64 (syncS s).1) ∧ DiskX B D w' L (syncS s).2 ∧ Chg (Off B D) w w' := by
  obtain ⟨C, h1, h2, h3, h4⟩ := h
  refine (od_sync L C s w h1).mono ?_
  rintro e w' ⟨rfl, hP, hc⟩
  exact ⟨rfl, ⟨_, hP, x_fr h2 h3 h4, fun q hq => Nat.lt_of_lt_of_le (h3 q hq) hc.size, Nat.le_trans h4 hc.size⟩, hc.weaken h2⟩
theorem state_one {st : List UInt8} (h : st.length ≤ 1024) : stateB st = pieceB 2 st := by
  unfold stateB
  cases hn : st.length with
  | zero => rfl
  | succ n => show (if 1024 < st.length then _ else pieceB 2 st) = _; rw [if_neg (by omega)]
/-- One head alone. -/
theorem there_one {s : DS} {p : Nat} (hp : p < 2) (h2 : s.now.getD (1 - p) [] = noughts 128) : thereS s = nextH s p (0, 0, 0) := by
  have key : ∀ u, nextH s (1 - p) u = u := fun u => by
    unfold nextH
    rw [if_neg]
    rintro ⟨h, _⟩
    rw [h2, of4_noughts] at h
    cases h
  rcases (show p = 0 ∨ p = 1 by omega) with rfl | rfl
  · show nextH s 1 (nextH s 0 (0, 0, 0)) = _
    exact key _
  · show nextH s 1 (nextH s 0 (0, 0, 0)) = _
    rw [show nextH s 0 (0, 0, 0) = (0, 0, 0) from key _]
/-- A sector of bytes H at p, a piece in a bank. -/
def twoS (p : Nat) (H : List UInt8) (q : Nat) (P : List UInt8) : DS := syncedS (putS (putS (newS 20) p H) q P)
theorem two_write {p q : Nat} {H P : List UInt8} (hp : p < 20) (hq : q < 20) (hH : H.length ≤ 128) (hP : P.length ≤ 128) : writeS (newS 20) (p : Int) H = (0, putS (newS 20) p H) ∧ writeS (putS (newS 20) p H) (q : Int) P = (0, putS (putS (newS 20) p H) q P) ∧ syncS (putS (putS (newS 20) p H) q P) = (0, twoS p H q P) :=
  ⟨writeS_calm (newS_calm 20) (by show _ < (List.replicate 20 (noughts 128)).length; rw [List.length_replicate]; exact hp) hH, writeS_calm (s := putS (newS 20) p H) ⟨rfl, rfl⟩ (by show _ < ((List.replicate 20 (noughts 128)).set _ _).length; rw [List.length_set, List.length_replicate]; exact hq) hP, syncS_calm (s := putS (putS (newS 20) p H) q P) ⟨rfl, rfl⟩⟩
theorem two_calm (p : Nat) (H : List UInt8) (q : Nat) (P : List UInt8) : calmS (twoS p H q P) := ⟨rfl, rfl⟩
theorem two_now (p : Nat) (H : List UInt8) (q : Nat) (P : List UInt8) : (twoS p H q P).now = ((List.replicate 20 (noughts 128)).set p (padS H)).set q (padS P) := rfl
theorem two_len (p : Nat) (H : List UInt8) (q : Nat) (P : List UInt8) : (twoS p H q P).now.length = 20 := by rw [two_now, List.length_set, List.length_set, List.length_replicate]
theorem two_half (p : Nat) (H : List UInt8) (q : Nat) (P : List UInt8) : halfS (twoS p H q P) = 9 := by unfold halfS; rw [two_len]
theorem two_size (p : Nat) (H : List UInt8) (q : Nat) (P : List UInt8) : sizeS (twoS p H q P) = 1152 := by unfold sizeS; rw [two_half]
theorem two_ok {p : Nat} {H : List UInt8} {q : Nat} {P : List UInt8} (hH : H.length ≤ 128) (hP : P.length ≤ 128) : (twoS p H q P).ok 20 := (((newS_ok 20).put p H hH).put q P hP).synced
theorem two_p {p : Nat} (H : List UInt8) {q : Nat} (P : List UInt8) (hp : p < 2) (hq : 2 ≤ q) : (twoS p H q P).now.getD p [] = padS H := by
  rw [two_now, getD_set_ne _ _ _ _ _ (by omega), getD_set_self _ _ _ _ (by rw [List.length_replicate]; omega)]
theorem two_o {p : Nat} (H : List UInt8) {q : Nat} (P : List UInt8) (hp : p < 2) (hq : 2 ≤ q) : (twoS p H q P).now.getD (1 - p) [] = noughts 128 := by
  rw [two_now, getD_set_ne _ _ _ _ _ (by omega), getD_set_ne _ _ _ _ _ (by omega), List.getD_eq_getElem?_getD, List.getElem?_replicate, if_pos (by omega)]
  rfl
theorem two_q {p : Nat} (H : List UInt8) {q : Nat} (P : List UInt8) (hq2 : q < 20) : (twoS p H q P).now.getD q [] = padS P := by
  rw [two_now, getD_set_self _ _ _ _ (by rw [List.length_set, List.length_replicate]; omega)]
theorem two_there {n g m : Nat} {q : Nat} {P : List UInt8} (hq : 2 ≤ q) (hn1 : 1 ≤ n) (hn : n ≤ 1073741824) (hg1 : 1 ≤ g) (hg : g ≤ 1048576) (hm : m ≤ 1152) : thereS (twoS (n % 2) (headB n g m) q P) = (n, g, m) := by
  have hp : n % 2 < 2 := Nat.mod_lt _ (by decide)
  rw [there_one hp (two_o _ _ hp hq)]
  unfold nextH
  obtain ⟨h1, h2, h3, h4⟩ := head_of n g m (by omega) (by omega) (by omega)
  rw [two_p _ _ hp hq, h1, h2, h3, if_pos]
  exact ⟨by show 0 < n; omega, stands_head rfl hn hg1 hg (by rw [two_size]; exact hm) (by omega)⟩
theorem two_none {n g m : Nat} {q : Nat} {P : List UInt8} (hq : 2 ≤ q) (hn : n < 4294967296) (hg : g < 4294967296) (hm : m < 4294967296) (h : 1073741824 < n ∨ 1048576 < g) : thereS (twoS (n % 2) (headB n g m) q P) = (0, 0, 0) := by
  have hp : n % 2 < 2 := Nat.mod_lt _ (by decide)
  rw [there_one hp (two_o _ _ hp hq)]
  unfold nextH
  obtain ⟨h1, h2, h3, h4⟩ := head_of n g m hn hg hm
  rw [two_p _ _ hp hq, if_neg]
  rintro ⟨_, hs⟩
  unfold standsB at hs
  rw [h1, h2] at hs
  simp only [Bool.and_eq_true, decide_eq_true_eq] at hs
  omega
theorem two_found {n g : Nat} {p : Nat} {H st : List UInt8} (hst : st.length ≤ 100) (hH : H.length ≤ 128) (h : thereS (twoS p H (2 + 9 * (g % 2)) (pieceB 2 st)) = (n, g, (pieceB 2 st).length)) (hn : 1 ≤ n) : foundS (twoS p H (2 + 9 * (g % 2)) (pieceB 2 st)) = (st, []) := by
  have hPl : (pieceB 2 st).length ≤ 128 := by rw [pieceB_len]; omega
  have hb := bank_is (k := g % 2) (b := pieceB 2 st) (two_ok (p := p) (q := 2 + 9 * (g % 2)) hH hPl) (Nat.mod_lt _ (by decide)) (fun j hj => by
    have hj0 : j = 0 := by omega
    subst hj0
    rw [two_half, show 2 + g % 2 * 9 + 0 = 2 + 9 * (g % 2) by omega, two_q _ _ (by omega)]
    unfold rowB
    rw [Nat.zero_mul, List.drop_zero, List.take_of_length_le hPl]) (by rw [two_size]; omega)
  unfold foundS
  rw [h]
  show (if n = 0 then _ else toldB ((bankS _ (g % 2)).take (pieceB 2 st).length)) = _
  rw [if_neg (by omega), hb, ← state_one (by omega)]
  exact told_state st
theorem openL_two {s : DS} {n g m : Nat} (h : thereS s = (n, g, m)) : openL s = ⟨n, g, [], 0, false, false⟩ := by
  unfold openL
  rw [h]
theorem openE_two (p : Nat) (H : List UInt8) (q : Nat) (P : List UInt8) : openE (twoS p H q P) = 0 := by
  unfold openE
  rw [two_size, if_neg (by decide)]
  rfl
theorem check_end {s : DS} {l : LS} {st : List UInt8} (hbr : l.broke = false) (hf : 1048576 < l.gen + 1 ∨ 1073741824 ≤ l.n) : checkW s l st = (3, s, l) := by
  unfold checkW
  rw [hbr, if_neg (by decide), if_pos (.inr hf)]
theorem commit_end {s : DS} {l : LS} (hbr : l.broke = false) (hbg : l.begun = true) (hs : l.sure ≠ l.b.length) (hn : 1073741824 ≤ l.n) : commitW s l = (3, s, l) := by
  unfold commitW
  rw [hbr, if_neg (by decide), hbg, if_neg (by decide), if_neg hs, if_pos hn]
end Go.Proofs.Ytdojdkmchipccaa
