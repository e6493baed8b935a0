/-
  What is proved here: pack's reader takes what a field's bounds speak of.
  Conditions: those that each fact names.
-/
import Derived.Test.YtjepeonekhhgfaaPackTake
namespace Go.Proofs.Ytjepeonekhhgfaa
open Go.RowKit

theorem grows_below {w w' : World} (h : Below w.heap.size w w') (row : Option Nat) : w.grownBy w' row := ⟨h.os, h.tape, h.output, h.size, fun k hk _ => h.block k hk⟩
theorem grown_trans {a b c : World} {row : Option Nat} (h : a.grownBy b row) (k : b.grownBy c row) : a.grownBy c row := ⟨k.os.trans h.os, k.tape.trans h.tape, k.output.trans h.output, Nat.le_trans h.size k.size, fun x hx hr => (k.block x (Nat.lt_of_lt_of_le hx h.size) hr).trans (h.block x hx hr)⟩
theorem Reads.below {w0 w w' : World} {g : Nat} {s : List UInt8} (h : Reads w0 w g s) (hb : Below w.heap.size w w') : Reads w0 w' g s := h.grown (grows_below hb none) (fun e => by cases e) (fun _ e => by cases e)
theorem leVal_take : ∀ (bs : List UInt8) (k : Nat) (h : k < bs.length), leVal (bs.take (k + 1)) = leVal (bs.take k) + 256 ^ k * bs[k].toNat
  | [], k, h => by simp at h
  | b :: bs, 0, h => by simp [leVal]
  | b :: bs, k + 1, h => by
    have hk : k < bs.length := by simpa using h
    rw [List.take_succ_cons, List.take_succ_cons]
    simp only [leVal, List.getElem_cons_succ]
    rw [leVal_take bs k hk, Nat.pow_succ, Nat.mul_add, Nat.mul_right_comm, Nat.mul_comm (256 ^ k * bs[k].toNat) 256, ← Nat.mul_assoc, Nat.add_assoc]
theorem leVal_lt : ∀ s : List UInt8, leVal s < 256 ^ s.length
  | [] => by simp [leVal]
  | b :: r => by
    have hb := b.toNat_lt
    have := leVal_lt r
    simp only [leVal, List.length_cons, Nat.pow_succ]
    omega
theorem or_le (n i : Nat) (x : UInt8) (h : n < 2 ^ (8 * i)) (hi : i < 8) : bits .or .u64 (n : Int) ((x.toNat * 2 ^ (8 * i) : Nat) : Int) = ((n + 2 ^ (8 * i) * x.toNat : Nat) : Int) := by
  have hx := x.toNat_lt
  have h1 : 2 ^ (8 * i) ≤ 2 ^ 56 := Nat.pow_le_pow_right (by omega) (by omega)
  have h2 : x.toNat * 2 ^ (8 * i) ≤ 255 * 2 ^ 56 := Nat.mul_le_mul (by omega) h1
  rw [bits_or64 _ _ (by omega) (by omega)]
  have := Nat.shiftLeft_add_eq_or_of_lt (i := 8 * i) (b := n) h x.toNat
  rw [Nat.shiftLeft_eq] at this
  rw [Nat.or_comm, ← this, Nat.mul_comm, Nat.add_comm]

set_option maxRecDepth 100000 in
set_option maxHeartbeats 1000000 in
theorem takeAmount_any (f : Fld) (o : Value) (hmm : f.min ≤ f.max) (hmx : f.max < 18446744073709551616) (s : List UInt8) (g : Nat) (w0 w : World) (hR : Reads w0 w g s) :
    Calls Try.prog 42 #[.pointer (some ⟨g, 0, none⟩), fldV f o] w fun e w' => takePost w0 w g (amtD f s) (fun n v _ => v = .int .u64 (n : Int)) (.int .u64 0) e w' := by
  have hwp := wid_pos (f.max - f.min)
  have hwl := wid_le (f.max - f.min)
  have HW : Hid (∀ W, Calls Try.prog 39 #[fldV f o] W fun e w' => e = .returned (.int .i64 (wid (f.max - f.min) : Int)) ∧ Below W.heap.size W w') := fun W => width_any f o hmm hmx W
  have HA : Hid (amtD f s = if wid (f.max - f.min) ≤ s.length then (if f.max - f.min < leVal (s.take (wid (f.max - f.min))) then none else some (f.min + leVal (s.take (wid (f.max - f.min))), s.drop (wid (f.max - f.min)))) else none) := by show _ = _; rfl
  rw [HA.out]
  clear HA
  generalize wid (f.max - f.min) = wd at *
  have HT : Hid (∀ W, Reads w0 W g s → Calls Try.prog 43 #[.pointer (some ⟨g, 0, none⟩), .int .i64 (wd : Int)] W fun e w' => takePost w0 W g (if wd ≤ s.length then some (s.take wd, s.drop wd) else none) (fun b v _ => Seg w0 v b) (.slice none 0 0) e w') := fun W hW => takeBytes_any wd (by unfold maxLen; omega) s g w0 W hW
  unfold fldV at *
  have hsub : (f.max : Int) - (f.min : Int) = ((f.max - f.min : Nat) : Int) := by omega
  by_cases hl : wd ≤ s.length
  · rw [if_pos hl]
    simp only [if_pos hl] at HT
    obtain ⟨res, hres⟩ : ∃ res, res = (if f.max - f.min < leVal (s.take wd) then none else some (f.min + leVal (s.take wd), s.drop wd)) := ⟨_, rfl⟩
    rw [← hres]
    have HR : Hid (res = (if f.max - f.min < leVal (s.take wd) then none else some (f.min + leVal (s.take wd), s.drop wd))) := hres
    clear hres
    go_enter Try.func42, Try.ntmps42
    go_wp2_with (first | (go_at_call 39; refine (HW.out _).mono ?_; rintro e w1 ⟨rfl, hb0⟩; have hb1 : Below w.heap.size w w1 := ((Below.refl _ _).alloc (Nat.le_refl _) _).trans (hb0.mono (by simp)); have hf1 := (Blk.new w 44 #[.int .i64 f.kind, .int .u64 (f.min : Int), .int .u64 (f.max : Int), o]).below hb0 (by simp); clear hb0) | (go_at_call 43; refine (HT.out _ (by exact hR.below hb1)).mono ?_; rintro e w2 ⟨⟨bv, rfl, hbv, hR2⟩, hg2⟩; obtain ⟨ab, cb, rfl⟩ := hbv.shape) | fail)
    have hgw : g < w.heap.size := by obtain ⟨_, _, _, _, hb, _⟩ := hR; exact hb.lt
    have hf2 : Blk w2 w.heap.size 44 #[.int .i64 f.kind, .int .u64 (f.min : Int), .int .u64 (f.max : Int), o] := hf1.grown hg2 (fun e => by have := Option.some.inj e; omega)
    have d1 := hf2.cell (j := 1) rfl
    have d2 := hf2.cell (j := 2) rfl
    have hG := grown_trans (grows_below hb1 (some g)) hg2
    have hbl : (s.take wd).length = wd := by rw [List.length_take]; omega
    generalize hT : s.take wd = bs at *
    obtain ⟨b, off, rfl, hcb, hrow, _⟩ : ∃ b off, ab = some ⟨b, off, none⟩ ∧ wd ≤ cb ∧ Row w2 b off bs ∧ True := by
      rcases hbv with ⟨h1, _⟩ | ⟨b, off, c', h1, h2, h3, h4⟩
      · rw [h1] at hbl; simp at hbl; omega
      · cases h1
        exact ⟨b, off, rfl, by omega, h3.below hR2.2.1 h4, trivial⟩
    have HBL : Hid (bs.length = wd) := hbl
    try rw [hbl]
    clear hbl hT hf1 hf2
    go_loopw [8, 22] (fun n i wr => ∃ k : Nat, k ≤ wd ∧ i = .int .i64 (k : Int) ∧ n = .int .u64 (leVal (bs.take k) : Int) ∧ wr = w2) (fun _ i _ => wd - (intOf i).toNat)
    case atStart => exact ⟨0, Nat.zero_le _, rfl, rfl, rfl⟩
    case round =>
      obtain ⟨k, hk, rfl, rfl, hwr⟩ := hrel
      subst hwr
      by_cases hlt : k < wd
      · have hkl : k < bs.length := by have := HBL.out; omega
        have hc := hrow k hkl
        have hb := leVal_lt (bs.take k)
        have HN : Hid (leVal (bs.take (k + 1)) = leVal (bs.take k) + 2 ^ (8 * k) * bs[k].toNat) := by show _ = _; rw [leVal_take bs k hkl, Nat.pow_mul]
        rw [List.length_take, Nat.min_eq_left (by omega)] at hb
        have ho := or_le (leVal (bs.take k)) k bs[k] (by rw [Nat.pow_mul]; exact hb) (by omega)
        have hx := lt8 bs[k]
        have hx0 := ge8 bs[k]
        clear hb hR2 hbv
        generalize bs[k] = x at *
        generalize leVal (bs.take k) = N at *
        have hk8 : k = 0 ∨ k = 1 ∨ k = 2 ∨ k = 3 ∨ k = 4 ∨ k = 5 ∨ k = 6 ∨ k = 7 := by omega
        rcases hk8 with rfl | rfl | rfl | rfl | rfl | rfl | rfl | rfl
        · rw [Nat.add_zero] at hc
          have ho' : bits .or .u64 (N : Int) (n8 x) = ((N + 1 * x.toNat : Nat) : Int) := by simpa [n8] using ho
          clear ho
          go_wp2
          go_roundw
          case rel => exact ⟨1, by omega, by go_num, by rw [show 1 = 0 + 1 from rfl, HN.out]; simp, trivial⟩
          case measure => simp [intOf]; omega
        · have ho' : bits .or .u64 (N : Int) (n8 x * 256) = ((N + 256 * x.toNat : Nat) : Int) := by simpa [n8] using ho
          clear ho
          go_wp2
          go_roundw
          case rel => exact ⟨2, by omega, by go_num, by rw [show 2 = 1 + 1 from rfl, HN.out]; simp, trivial⟩
          case measure => simp [intOf]; omega
        · have ho' : bits .or .u64 (N : Int) (n8 x * 65536) = ((N + 65536 * x.toNat : Nat) : Int) := by simpa [n8] using ho
          clear ho
          go_wp2
          go_roundw
          case rel => exact ⟨3, by omega, by go_num, by rw [show 3 = 2 + 1 from rfl, HN.out]; simp, trivial⟩
          case measure => simp [intOf]; omega
        · have ho' : bits .or .u64 (N : Int) (n8 x * 16777216) = ((N + 16777216 * x.toNat : Nat) : Int) := by simpa [n8] using ho
          clear ho
          go_wp2
          go_roundw
          case rel => exact ⟨4, by omega, by go_num, by rw [show 4 = 3 + 1 from rfl, HN.out]; simp, trivial⟩
          case measure => simp [intOf]; omega
        · have ho' : bits .or .u64 (N : Int) (n8 x * 4294967296) = ((N + 4294967296 * x.toNat : Nat) : Int) := by simpa [n8] using ho
          clear ho
          go_wp2
          go_roundw
          case rel => exact ⟨5, by omega, by go_num, by rw [show 5 = 4 + 1 from rfl, HN.out]; simp, trivial⟩
          case measure => simp [intOf]; omega
        · have ho' : bits .or .u64 (N : Int) (n8 x * 1099511627776) = ((N + 1099511627776 * x.toNat : Nat) : Int) := by simpa [n8] using ho
          clear ho
          go_wp2
          go_roundw
          case rel => exact ⟨6, by omega, by go_num, by rw [show 6 = 5 + 1 from rfl, HN.out]; simp, trivial⟩
          case measure => simp [intOf]; omega
        · have ho' : bits .or .u64 (N : Int) (n8 x * 281474976710656) = ((N + 281474976710656 * x.toNat : Nat) : Int) := by simpa [n8] using ho
          clear ho
          go_wp2
          go_roundw
          case rel => exact ⟨7, by omega, by go_num, by rw [show 7 = 6 + 1 from rfl, HN.out]; simp, trivial⟩
          case measure => simp [intOf]; omega
        · have ho' : bits .or .u64 (N : Int) (n8 x * 72057594037927936) = ((N + 72057594037927936 * x.toNat : Nat) : Int) := by simpa [n8] using ho
          clear ho
          go_wp2
          go_roundw
          case rel => exact ⟨8, by omega, by go_num, by rw [show 8 = 7 + 1 from rfl, HN.out]; simp, trivial⟩
          case measure => simp [intOf]; omega
      · have HK : Hid (k = wd) := by show _ = _; omega
        rw [List.take_of_length_le (by have := HBL.out; have := HK.out; omega)]
        have i3 : ¬ (k : Int) < (wd : Int) := by omega
        by_cases hbig : f.max - f.min < leVal bs
        · have HE : Hid (res = none) := by show _ = _; rw [HR.out, if_pos hbig]
          have i2 : ((f.max - f.min : Nat) : Int) < (leVal bs : Int) := by omega
          generalize leVal bs = N at *
          go_wp2
          go_ret2
          rw [HE.out]
          exact ⟨⟨_, rfl, hR2⟩, hG⟩
        · have HE : Hid (res = some (f.min + leVal bs, s.drop wd)) := by show _ = _; rw [HR.out, if_neg hbig]
          have i2 : ¬ ((f.max - f.min : Nat) : Int) < (leVal bs : Int) := by omega
          generalize leVal bs = N at *
          go_wp2
          go_ret2
          rw [HE.out]
          exact ⟨⟨_, rfl, by simp, hR2⟩, hG⟩
  · rw [if_neg hl]
    simp only [if_neg hl] at HT
    go_enter Try.func42, Try.ntmps42
    go_wp2_with (first | (go_at_call 39; refine (HW.out _).mono ?_; rintro e w1 ⟨rfl, hb0⟩; have hb1 : Below w.heap.size w w1 := ((Below.refl _ _).alloc (Nat.le_refl _) _).trans (hb0.mono (by simp)); have hf1 := (Blk.new w 44 #[.int .i64 f.kind, .int .u64 (f.min : Int), .int .u64 (f.max : Int), o]).below hb0 (by simp); clear hb0) | (go_at_call 43; refine (HT.out _ (by exact hR.below hb1)).mono ?_; rintro e w2 ⟨⟨s', rfl, hR2⟩, hg2⟩) | fail)
    go_ret2
    exact ⟨⟨s', rfl, hR2⟩, grown_trans (grows_below hb1 _) hg2⟩
end Go.Proofs.Ytjepeonekhhgfaa
