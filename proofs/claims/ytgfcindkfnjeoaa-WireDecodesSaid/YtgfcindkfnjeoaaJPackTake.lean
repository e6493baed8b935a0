/-
  What is proved here: pack's reader takes bytes off the front of what is left. pack's reader takes what a field's bounds speak of.
  Conditions: those that each fact names.
-/
import Derived.Test.YtgfcindkfnjeoaaJPackEnc
import Derived.Test.YtgfcindkfnjeoaaJPackPure
import Derived.Test.YtgfcindkfnjeoaaJCrcPure
namespace Go.Proofs.Ytgfcindkfnjeoaa
open Go.RowKit

/-- Where the rest of a slice begins. -/
def restAt (ao : Option Addr) (c lo : Nat) : Option Addr := if c = lo then ao else ao.map (·.add (lo * 1))
theorem slice_rest (ao : Option Addr) (len c lo : Nat) (h : lo ≤ len) (w : World) : (Instr.slice 26 (.slice ao len c) (some (.int .i64 (lo : Int))) none none).run Try.prog w = .ok (.slice (restAt ao c lo) (len - lo) (c - lo)) w := by
  rw [run_slice_l w 26 ao len c (by rw [elem_bytes]; exact Try.underlying26) .i64 lo (by omega) (by omega), elem_bytes, size_byte]
  simp only [Result.andThen_ok, sliced, Int.toNat_natCast, restAt]

theorem Seg.drops {w : World} {ao : Option Addr} {len c : Nat} {bs : List UInt8} (h : Seg w (.slice ao len c) bs) (n : Nat) (hn : n ≤ len) : Seg w (.slice (restAt ao c n) (len - n) (c - n)) (bs.drop n) := by
  rcases h with ⟨rfl, ao', c', h, h2⟩ | ⟨b, off, c', h, h2, h3, h4⟩
  · cases h
    obtain rfl : n = 0 := by omega
    refine .inl ⟨rfl, _, _, rfl, fun e => ?_⟩
    unfold restAt at e
    split at e
    · omega
    · rw [Option.map_eq_none_iff] at e
      have := h2 e
      omega
  · cases h
    by_cases hc : c = n
    · have e : restAt (some ⟨b, off, none⟩) c n = some ⟨b, off, none⟩ := by unfold restAt; rw [if_pos hc]
      rw [e]
      have hb : bs.drop n = [] := List.drop_eq_nil_of_le (by omega)
      rw [hb]
      exact .inl ⟨rfl, _, c - n, by congr 1; omega, fun e => by cases e⟩
    · have e : restAt (some ⟨b, off, none⟩) c n = some ⟨b, off + n, none⟩ := by unfold restAt; rw [if_neg hc, Option.map_some, Addr.add_mid, Nat.mul_one]
      rw [e]
      exact Seg.of_row (h3.drop n) (by simp) (by omega) h4

/-- A reader lies here: what is left of it are bytes of the world ahead of it. -/
def Reads (w0 w : World) (g : Nat) (s : List UInt8) : Prop := w0.heap.size ≤ g ∧ Below w0.heap.size w0 w ∧ s.length ≤ maxLen ∧ ∃ lv, Blk w g 82 #[lv] ∧ Seg w0 lv s
theorem Reads.grown {w0 w w' : World} {g : Nat} {s : List UInt8} {row : Option Nat} (h : Reads w0 w g s) (hg : w.grownBy w' row) (h1 : some g ≠ row) (h2 : ∀ k, row = some k → w0.heap.size ≤ k) : Reads w0 w' g s := by
  obtain ⟨a, b, c, lv, d, e⟩ := h
  exact ⟨a, below_grown b hg b.size h2, c, lv, d.grown hg h1, e⟩
theorem grown_set (w : World) (g i : Nat) (v : Value) : w.grownBy (w.setCell ⟨g, i, none⟩ v) (some g) := by
  have b := (Below.refl 0 w).setCell (p := ⟨g, i, none⟩) (Nat.zero_le _) v
  exact ⟨b.os, b.tape, b.output, b.size, fun k _ hk => Below.heap_setCell w _ v k (fun e => hk (by rw [e]))⟩
theorem grown_refl (w : World) (row : Option Nat) : w.grownBy w row := ⟨rfl, rfl, rfl, Nat.le_refl _, fun _ _ _ => rfl⟩
/-- What a take answers: something and what is left, or nothing. -/
def takePost {α : Type} (w0 w : World) (g : Nat) (r : Option (α × List UInt8)) (R : α → Value → World → Prop) (z : Value) (e : Ending) (w' : World) : Prop := (match r with
  | some p => ∃ v, e = .returned (.tuple #[v, .bool true]) ∧ R p.1 v w' ∧ Reads w0 w' g p.2
  | none => ∃ s', e = .returned (.tuple #[z, .bool false]) ∧ Reads w0 w' g s') ∧ w.grownBy w' (some g)

set_option maxRecDepth 100000 in
set_option maxHeartbeats 1000000 in
theorem takeBytes_any (n : Nat) (hn : n ≤ maxLen) (s : List UInt8) (g : Nat) (w0 w : World) (hR : Reads w0 w g s) :
    Calls Try.prog 75 #[.pointer (some ⟨g, 0, none⟩), .int .i64 (n : Int)] w fun e w' => takePost w0 w g (if n ≤ s.length then some (s.take n, s.drop n) else none) (fun b v _ => Seg w0 v b) (.slice none 0 0) e w' := by
  obtain ⟨hg, hB, hm, lv, hb, hs⟩ := hR
  obtain ⟨ao, c, rfl⟩ := hs.shape
  unfold maxLen at hn hm
  have c0 := hb.cell (j := 0) rfl
  have z0 := hb.frozen 0
  obtain ⟨len, hlen⟩ : ∃ len, len = s.length := ⟨_, rfl⟩
  rw [← hlen] at hs hm hb c0 ⊢
  by_cases h : n ≤ len
  · have i1 : ¬ (len : Int) < (n : Int) := by omega
    obtain ⟨ht, hnc⟩ := hs.takes n h
    have hd := hs.drops n h
    have l1 := slice_to ao len c n hnc
    have l2 := slice_rest ao len c n h
    rw [if_pos h]
    generalize restAt ao c n = ra at *
    have HX : Hid ((s.take n).length = n) := by show _ = _; rw [List.length_take]; omega
    have HY : Hid (len = s.length) := hlen
    clear hlen
    go_enter Try.func75, Try.ntmps75
    go_wp2
    go_ret2
    exact ⟨⟨_, rfl, ht, hg, hB.setCell hg _, by show (s.drop n).length ≤ maxLen; rw [List.length_drop]; unfold maxLen; have := HY.out; omega, _, hb.set 0 _, hd⟩, grown_set _ _ _ _⟩
  · have i1 : (len : Int) < (n : Int) := by omega
    rw [if_neg h]
    go_enter Try.func75, Try.ntmps75
    go_wp2
    go_ret2
    exact ⟨⟨s, rfl, hg, hB, by unfold maxLen; omega, _, hb, hs⟩, grown_refl _ _⟩
end Go.Proofs.Ytgfcindkfnjeoaa
namespace Go.Proofs.Ytgfcindkfnjeoaa
open Go.RowKit

theorem grows_below {w w' : World} (h : Below w.heap.size w w') (row : Option Nat) : w.grownBy w' row := ⟨h.os, h.tape, h.output, h.size, fun k hk _ => h.block k hk⟩

theorem Reads.below {w0 w w' : World} {g : Nat} {s : List UInt8} (h : Reads w0 w g s) (hb : Below w.heap.size w w') : Reads w0 w' g s := h.grown (grows_below hb none) (fun e => by cases e) (fun _ e => by cases e)
theorem leVal_take : ∀ (bs : List UInt8) (k : Nat) (h : k < bs.length), leVal (bs.take (k + 1)) = leVal (bs.take k) + 256 ^ k * bs[k].toNat
  | [], k, h => by simp at h
  | b :: bs, 0, h => by simp [leVal]
  | b :: bs, k + 1, h => by
    have hk : k < bs.length := by simpa using h
    rw [List.take_succ_cons, List.take_succ_cons]
    simp only [leVal, List.getElem_cons_succ]
    rw [leVal_take bs k hk, Nat.pow_succ, Nat.mul_add, Nat.mul_right_comm, Nat.mul_comm (256 ^ k * bs[k].toNat) 256, ← Nat.mul_assoc, Nat.add_assoc]
theorem leVal_lt : ∀ s : List UInt8, leVal s < 256 ^ s.length
  | [] => by simp [leVal]
  | b :: r => by
    have hb := b.toNat_lt
    have := leVal_lt r
    simp only [leVal, List.length_cons, Nat.pow_succ]
    omega
theorem or_le (n i : Nat) (x : UInt8) (h : n < 2 ^ (8 * i)) (hi : i < 8) : bits .or .u64 (n : Int) ((x.toNat * 2 ^ (8 * i) : Nat) : Int) = ((n + 2 ^ (8 * i) * x.toNat : Nat) : Int) := by
  have hx := x.toNat_lt
  have h1 : 2 ^ (8 * i) ≤ 2 ^ 56 := Nat.pow_le_pow_right (by omega) (by omega)
  have h2 : x.toNat * 2 ^ (8 * i) ≤ 255 * 2 ^ 56 := Nat.mul_le_mul (by omega) h1
  rw [bits_or64 _ _ (by omega) (by omega)]
  have := Nat.shiftLeft_add_eq_or_of_lt (i := 8 * i) (b := n) h x.toNat
  rw [Nat.shiftLeft_eq] at this
  rw [Nat.or_comm, ← this, Nat.mul_comm, Nat.add_comm]

set_option maxRecDepth 100000 in
set_option maxHeartbeats 1000000 in
theorem takeAmount_any (f : Fld) (o : Value) (hmm : f.min ≤ f.max) (hmx : f.max < 18446744073709551616) (s : List UInt8) (g : Nat) (w0 w : World) (hR : Reads w0 w g s) :
    Calls Try.prog 74 #[.pointer (some ⟨g, 0, none⟩), fldV f o] w fun e w' => takePost w0 w g (amtD f s) (fun n v _ => v = .int .u64 (n : Int)) (.int .u64 0) e w' := by
  have hwp := wid_pos (f.max - f.min)
  have hwl := wid_le (f.max - f.min)
  have HW : Hid (∀ W, Calls Try.prog 70 #[fldV f o] W fun e w' => e = .returned (.int .i64 (wid (f.max - f.min) : Int)) ∧ Below W.heap.size W w') := fun W => width_any f o hmm hmx W
  have HA : Hid (amtD f s = if wid (f.max - f.min) ≤ s.length then (if f.max - f.min < leVal (s.take (wid (f.max - f.min))) then none else some (f.min + leVal (s.take (wid (f.max - f.min))), s.drop (wid (f.max - f.min)))) else none) := by show _ = _; rfl
  rw [HA.out]
  clear HA
  generalize wid (f.max - f.min) = wd at *
  have HT : Hid (∀ W, Reads w0 W g s → Calls Try.prog 75 #[.pointer (some ⟨g, 0, none⟩), .int .i64 (wd : Int)] W fun e w' => takePost w0 W g (if wd ≤ s.length then some (s.take wd, s.drop wd) else none) (fun b v _ => Seg w0 v b) (.slice none 0 0) e w') := fun W hW => takeBytes_any wd (by unfold maxLen; omega) s g w0 W hW
  unfold fldV at *
  have hsub : (f.max : Int) - (f.min : Int) = ((f.max - f.min : Nat) : Int) := by omega
  by_cases hl : wd ≤ s.length
  · rw [if_pos hl]
    simp only [if_pos hl] at HT
    obtain ⟨res, hres⟩ : ∃ res, res = (if f.max - f.min < leVal (s.take wd) then none else some (f.min + leVal (s.take wd), s.drop wd)) := ⟨_, rfl⟩
    rw [← hres]
    have HR : Hid (res = (if f.max - f.min < leVal (s.take wd) then none else some (f.min + leVal (s.take wd), s.drop wd))) := hres
    clear hres
    go_enter Try.func74, Try.ntmps74
    go_wp2_with (first | (go_at_call 70; refine (HW.out _).mono ?_; rintro e w1 ⟨rfl, hb0⟩; have hb1 : Below w.heap.size w w1 := ((Below.refl _ _).alloc (Nat.le_refl _) _).trans (hb0.mono (by simp)); have hf1 := (Blk.new w 62 #[.int .i64 f.kind, .int .u64 (f.min : Int), .int .u64 (f.max : Int), o]).below hb0 (by simp); clear hb0) | (go_at_call 75; refine (HT.out _ (by exact hR.below hb1)).mono ?_; rintro e w2 ⟨⟨bv, rfl, hbv, hR2⟩, hg2⟩; obtain ⟨ab, cb, rfl⟩ := hbv.shape) | fail)
    have hgw : g < w.heap.size := by obtain ⟨_, _, _, _, hb, _⟩ := hR; exact hb.lt
    have hf2 : Blk w2 w.heap.size 62 #[.int .i64 f.kind, .int .u64 (f.min : Int), .int .u64 (f.max : Int), o] := hf1.grown hg2 (fun e => by have := Option.some.inj e; omega)
    have d1 := hf2.cell (j := 1) rfl
    have d2 := hf2.cell (j := 2) rfl
    have hG := grown_transB (grows_below hb1 (some g)) hg2
    have hbl : (s.take wd).length = wd := by rw [List.length_take]; omega
    generalize hT : s.take wd = bs at *
    obtain ⟨b, off, rfl, hcb, hrow, _⟩ : ∃ b off, ab = some ⟨b, off, none⟩ ∧ wd ≤ cb ∧ Row w2 b off bs ∧ True := by
      rcases hbv with ⟨h1, _⟩ | ⟨b, off, c', h1, h2, h3, h4⟩
      · rw [h1] at hbl; simp at hbl; omega
      · cases h1
        exact ⟨b, off, rfl, by omega, h3.below hR2.2.1 h4, trivial⟩
    have HBL : Hid (bs.length = wd) := hbl
    try rw [hbl]
    clear hbl hT hf1 hf2
    go_loopw [8, 22] (fun n i wr => ∃ k : Nat, k ≤ wd ∧ i = .int .i64 (k : Int) ∧ n = .int .u64 (leVal (bs.take k) : Int) ∧ wr = w2) (fun _ i _ => wd - (intOf i).toNat)
    case atStart => exact ⟨0, Nat.zero_le _, rfl, rfl, rfl⟩
    case round =>
      obtain ⟨k, hk, rfl, rfl, hwr⟩ := hrel
      subst hwr
      by_cases hlt : k < wd
      · have hkl : k < bs.length := by have := HBL.out; omega
        have hc := hrow k hkl
        have hb := leVal_lt (bs.take k)
        have HN : Hid (leVal (bs.take (k + 1)) = leVal (bs.take k) + 2 ^ (8 * k) * bs[k].toNat) := by show _ = _; rw [leVal_take bs k hkl, Nat.pow_mul]
        rw [List.length_take, Nat.min_eq_left (by omega)] at hb
        have ho := or_le (leVal (bs.take k)) k bs[k] (by rw [Nat.pow_mul]; exact hb) (by omega)
        have hx := lt8 bs[k]
        have hx0 := ge8 bs[k]
        clear hb hR2 hbv
        generalize bs[k] = x at *
        generalize leVal (bs.take k) = N at *
        have hk8 : k = 0 ∨ k = 1 ∨ k = 2 ∨ k = 3 ∨ k = 4 ∨ k = 5 ∨ k = 6 ∨ k = 7 := by omega
        rcases hk8 with rfl | rfl | rfl | rfl | rfl | rfl | rfl | rfl
        · rw [Nat.add_zero] at hc
          have ho' : bits .or .u64 (N : Int) (n8 x) = ((N + 1 * x.toNat : Nat) : Int) := by simpa [n8] using ho
          clear ho
          go_wp2
          go_roundw
          case rel => exact ⟨1, by omega, by go_num, by rw [show 1 = 0 + 1 from rfl, HN.out]; simp, trivial⟩
          case measure => simp [intOf]; omega
        · have ho' : bits .or .u64 (N : Int) (n8 x * 256) = ((N + 256 * x.toNat : Nat) : Int) := by simpa [n8] using ho
          clear ho
          go_wp2
          go_roundw
          case rel => exact ⟨2, by omega, by go_num, by rw [show 2 = 1 + 1 from rfl, HN.out]; simp, trivial⟩
          case measure => simp [intOf]; omega
        · have ho' : bits .or .u64 (N : Int) (n8 x * 65536) = ((N + 65536 * x.toNat : Nat) : Int) := by simpa [n8] using ho
          clear ho
          go_wp2
          go_roundw
          case rel => exact ⟨3, by omega, by go_num, by rw [show 3 = 2 + 1 from rfl, HN.out]; simp, trivial⟩
          case measure => simp [intOf]; omega
        · have ho' : bits .or .u64 (N : Int) (n8 x * 16777216) = ((N + 16777216 * x.toNat : Nat) : Int) := by simpa [n8] using ho
          clear ho
          go_wp2
          go_roundw
          case rel => exact ⟨4, by omega, by go_num, by rw [show 4 = 3 + 1 from rfl, HN.out]; simp, trivial⟩
          case measure => simp [intOf]; omega
        · have ho' : bits .or .u64 (N : Int) (n8 x * 4294967296) = ((N + 4294967296 * x.toNat : Nat) : Int) := by simpa [n8] using ho
          clear ho
          go_wp2
          go_roundw
          case rel => exact ⟨5, by omega, by go_num, by rw [show 5 = 4 + 1 from rfl, HN.out]; simp, trivial⟩
          case measure => simp [intOf]; omega
        · have ho' : bits .or .u64 (N : Int) (n8 x * 1099511627776) = ((N + 1099511627776 * x.toNat : Nat) : Int) := by simpa [n8] using ho
          clear ho
          go_wp2
          go_roundw
          case rel => exact ⟨6, by omega, by go_num, by rw [show 6 = 5 + 1 from rfl, HN.out]; simp, trivial⟩
          case measure => simp [intOf]; omega
        · have ho' : bits .or .u64 (N : Int) (n8 x * 281474976710656) = ((N + 281474976710656 * x.toNat : Nat) : Int) := by simpa [n8] using ho
          clear ho
          go_wp2
          go_roundw
          case rel => exact ⟨7, by omega, by go_num, by rw [show 7 = 6 + 1 from rfl, HN.out]; simp, trivial⟩
          case measure => simp [intOf]; omega
        · have ho' : bits .or .u64 (N : Int) (n8 x * 72057594037927936) = ((N + 72057594037927936 * x.toNat : Nat) : Int) := by simpa [n8] using ho
          clear ho
          go_wp2
          go_roundw
          case rel => exact ⟨8, by omega, by go_num, by rw [show 8 = 7 + 1 from rfl, HN.out]; simp, trivial⟩
          case measure => simp [intOf]; omega
      · have HK : Hid (k = wd) := by show _ = _; omega
        rw [List.take_of_length_le (by have := HBL.out; have := HK.out; omega)]
        have i3 : ¬ (k : Int) < (wd : Int) := by omega
        by_cases hbig : f.max - f.min < leVal bs
        · have HE : Hid (res = none) := by show _ = _; rw [HR.out, if_pos hbig]
          have i2 : ((f.max - f.min : Nat) : Int) < (leVal bs : Int) := by omega
          generalize leVal bs = N at *
          go_wp2
          go_ret2
          rw [HE.out]
          exact ⟨⟨_, rfl, hR2⟩, hG⟩
        · have HE : Hid (res = some (f.min + leVal bs, s.drop wd)) := by show _ = _; rw [HR.out, if_neg hbig]
          have i2 : ¬ ((f.max - f.min : Nat) : Int) < (leVal bs : Int) := by omega
          generalize leVal bs = N at *
          go_wp2
          go_ret2
          rw [HE.out]
          exact ⟨⟨_, rfl, by simp, hR2⟩, hG⟩
  · rw [if_neg hl]
    simp only [if_neg hl] at HT
    go_enter Try.func74, Try.ntmps74
    go_wp2_with (first | (go_at_call 70; refine (HW.out _).mono ?_; rintro e w1 ⟨rfl, hb0⟩; have hb1 : Below w.heap.size w w1 := ((Below.refl _ _).alloc (Nat.le_refl _) _).trans (hb0.mono (by simp)); have hf1 := (Blk.new w 62 #[.int .i64 f.kind, .int .u64 (f.min : Int), .int .u64 (f.max : Int), o]).below hb0 (by simp); clear hb0) | (go_at_call 75; refine (HT.out _ (by exact hR.below hb1)).mono ?_; rintro e w2 ⟨⟨s', rfl, hR2⟩, hg2⟩) | fail)
    go_ret2
    exact ⟨⟨s', rfl, hR2⟩, grown_transB (grows_below hb1 _) hg2⟩
end Go.Proofs.Ytgfcindkfnjeoaa
