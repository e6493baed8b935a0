/-
  What is proved here: FlashI the document's flash: what is there, how worn a block is, reading, arming, the power. the document's flash: programming and erasing. the document's flash: a new one.
  Conditions: none. the flash lies in memory.
-/
import Derived.Test.YtbdhkkdombdnkaaDoorJSegKit
import Derived.Lib.MinMax
import Derived.StillTailTactics
import Derived.Test.YtbdhkkdombdnkaaDoorJHeldOps
import Derived.Deep.OwnRows
namespace Go.Proofs.YtbdhkkdombdnkaaDoor
open Go.RowKit

/-- A number of 64 bits. -/
def R64 (x : Int) : Prop := -9223372036854775808 ≤ x ∧ x ≤ 9223372036854775807
/-- How the program's flash lies in memory, and what its calls do. -/
structure PF where
  Lay : Type
  g : Lay → Nat
  T : Lay → Nat → Prop
  Rel : World → Lay → FS → Prop
  n : Lay → Nat
  ok : ∀ {w : World} {L : Lay} {s : FS}, Rel w L s → s.ok (n L)
  lt : ∀ {w : World} {L : Lay} {s : FS}, Rel w L s → ∀ q, T L q → q < w.heap.size
  chg : ∀ {w w' : World} {L : Lay} {s : FS} {S : Nat → Prop}, Rel w L s → Chg S w w' → (∀ q, T L q → ¬ S q) → Rel w' L s
  new_bad : ∀ (n k : Int) (w : World), R64 n → R64 k → (n < 1 ∨ 256 < n ∨ k < 1 ∨ 10000 < k) →
    Calls Tryd.prog 7 #[.int .i64 n, .int .i64 k] w fun e w' => e = .returned (.tuple #[.pointer none, .int .i64 1]) ∧ Below w.heap.size w w'
  new_any : ∀ (m k : Nat) (w : World), 1 ≤ m → m ≤ 256 → 1 ≤ k → k ≤ 10000 →
    Calls Tryd.prog 7 #[.int .i64 (m : Int), .int .i64 (k : Int)] w fun e w' => ∃ L : Lay, e = .returned (.tuple #[.pointer (some ⟨g L, 0, none⟩), .int .i64 0]) ∧ n L = m ∧ Rel w' L (newF m k) ∧ Below w.heap.size w w' ∧ (∀ q, T L q → w.heap.size ≤ q)
  read : ∀ (L : Lay) (s : FS) (a m : Int) (w : World), Rel w L s → R64 a → R64 m →
    Calls Tryd.prog 23 #[.pointer (some ⟨g L, 0, none⟩), .int .i64 a, .int .i64 m] w fun e w' => ∃ v, e = .returned (.tuple #[v, .int .i64 (readF s a m).2]) ∧ Own w' w.heap.size v (readF s a m).1 ∧ Below w.heap.size w w'
  program : ∀ (L : Lay) (s : FS) (a : Int) (x : Value) (bs : List UInt8) (w : World), Rel w L s → R64 a → Seg w x bs → bs.length ≤ maxLen → (0 < bs.length → ∀ q, x.ownBlock = some q → ¬ T L q) →
    Calls Tryd.prog 15 #[.pointer (some ⟨g L, 0, none⟩), .int .i64 a, x] w fun e w' => e = .returned (.int .i64 (programF s a bs).1) ∧ Rel w' L (programF s a bs).2 ∧ Chg (T L) w w'
  erase : ∀ (L : Lay) (s : FS) (b : Int) (w : World), Rel w L s → R64 b →
    Calls Tryd.prog 17 #[.pointer (some ⟨g L, 0, none⟩), .int .i64 b] w fun e w' => e = .returned (.int .i64 (eraseF s b).1) ∧ Rel w' L (eraseF s b).2 ∧ Chg (T L) w w'
  arm : ∀ (L : Lay) (s : FS) (c d : Int) (w : World), Rel w L s → R64 c → R64 d →
    Calls Tryd.prog 11 #[.pointer (some ⟨g L, 0, none⟩), .int .i64 c, .int .i64 d] w fun e w' => e = .returned (.tuple #[]) ∧ Rel w' L (armF s c d) ∧ Chg (T L) w w'
  power : ∀ (L : Lay) (s : FS) (w : World), Rel w L s →
    Calls Tryd.prog 13 #[.pointer (some ⟨g L, 0, none⟩)] w fun e w' => e = .returned (.tuple #[]) ∧ Rel w' L (powerF s) ∧ Chg (T L) w w'
theorem PF.after (P : PF) {w w' : World} {L : P.Lay} {s : FS} (h : P.Rel w L s) (hb : Below w.heap.size w w') : P.Rel w' L s :=
  P.chg h (Chg.of_below (S := fun _ => False) hb (Nat.le_refl _)) (fun _ _ => id)
end Go.Proofs.YtbdhkkdombdnkaaDoor
namespace Go.Proofs.YtbdhkkdombdnkaaDoor
open Go.RowKit

structure FLay where
  g : Nat
  bb : Nat
  bw : Nat
  n : Nat
  m : Nat
/-- The blocks that a flash writes. -/
def FLay.T (L : FLay) (b : Nat) : Prop := b = L.g ∨ b = L.bb ∨ b = L.bw
def FLay.head (L : FLay) (s : FS) : Array Value := #[.slice (some ⟨L.bb, 0, none⟩) L.m L.m, .slice (some ⟨L.bw, 0, none⟩) L.n L.n, .int .i64 (s.most : Int), .int .i64 s.armed, .int .i64 s.done, .bool s.down]
def wornV (l : List Nat) : Array Value := (l.map fun (x : Nat) => Value.int .i64 (x : Int)).toArray
structure RFlash (w : World) (L : FLay) (s : FS) : Prop where
  ok : s.ok L.n
  gb : L.g ≠ L.bb
  gw : L.g ≠ L.bw
  bw : L.bb ≠ L.bw
  m : L.m = 1024 * L.n
  head : Blk w L.g 63 (L.head s)
  b : Blk w L.bb 5 (s.b.map v8).toArray
  worn : Blk w L.bw 3 (wornV s.worn)
theorem RFlash.lt {w : World} {L : FLay} {s : FS} (h : RFlash w L s) : ∀ q, L.T q → q < w.heap.size := by
  rintro q (rfl | rfl | rfl)
  · exact h.head.lt
  · exact h.b.lt
  · exact h.worn.lt
theorem RFlash.chg {w w' : World} {L : FLay} {s : FS} {S : Nat → Prop} (h : RFlash w L s) (hc : Chg S w w') (hT : ∀ q, L.T q → ¬ S q) : RFlash w' L s :=
  ⟨h.ok, h.gb, h.gw, h.bw, h.m, h.head.chg hc (hT _ (.inl rfl)), h.b.chg hc (hT _ (.inr (.inl rfl))), h.worn.chg hc (hT _ (.inr (.inr rfl)))⟩
theorem RFlash.after {w w' : World} {L : FLay} {s : FS} (h : RFlash w L s) (hb : Below w.heap.size w w') : RFlash w' L s :=
  h.chg (Chg.of_below (S := fun _ => False) hb (Nat.le_refl _)) (fun _ _ => id)
/-- The head alone has changed. -/
theorem RFlash.chgHead {w w' : World} {L : FLay} {s : FS} (h : RFlash w L s) (hc : Chg (fun b => b = L.g) w w') (t : FS) (hk : t.ok L.n) (he : t.b = s.b ∧ t.worn = s.worn) (hb : Blk w' L.g 63 (L.head t)) : RFlash w' L t :=
  ⟨hk, h.gb, h.gw, h.bw, h.m, hb, by rw [he.1]; exact h.b.chg hc (fun e => h.gb e.symm), by rw [he.2]; exact h.worn.chg hc (fun e => h.gw e.symm)⟩
theorem RFlash.len {w : World} {L : FLay} {s : FS} (h : RFlash w L s) : s.b.length = L.m := by rw [h.ok.b, h.m]
theorem RFlash.m_le {w : World} {L : FLay} {s : FS} (h : RFlash w L s) : L.m ≤ 262144 := by have := h.ok.cap; rw [h.m]; omega
theorem wornV_at {l : List Nat} {k : Nat} (h : k < l.length) : (wornV l)[k]? = some (.int .i64 ((l.getD k 0 : Nat) : Int)) := by
  simp [wornV, h]
theorem slice_midD (ao : Option Addr) (len c lo hi : Nat) (h : lo ≤ hi) (hc : hi ≤ c) (w : World) : (Instr.slice 41 (.slice ao len c) (some (.int .i64 (lo : Int))) (some (.int .i64 (hi : Int))) none).run Tryd.prog w = .ok (.slice (restD ao c lo) (hi - lo) (c - lo)) w := by
  rw [run_slice_lh w 41 ao len c (by rw [elem_bytesD]; exact Tryd.underlying41) .i64 .i64 lo hi (by omega) (by omega) (by omega), elem_bytesD, size_byteD]
  simp only [Result.andThen_ok, sliced, Int.toNat_natCast, restD]

set_option maxRecDepth 100000 in
set_option maxHeartbeats 1000000 in
theorem ref6There_any (L : FLay) (s : FS) (at_ n : Int) (w : World) (hD : RFlash w L s) :
    Calls Tryd.prog 35 #[.pointer (some ⟨L.g, 0, none⟩), .int .i64 at_, .int .i64 n] w fun e w' => e = .returned (.bool (thereB s at_ n)) ∧ w = w' := by
  have hx := hD.head
  have hl := hD.len
  have hm := hD.m_le
  unfold FLay.head at hx
  have c0 := hx.cell (j := 0) rfl
  obtain ⟨R, hR⟩ : ∃ R, R = thereB s at_ n := ⟨_, rfl⟩
  rw [← hR]
  unfold thereB at hR
  rw [hl] at hR
  generalize L.m = M at *
  have HR : Hid (R = (decide (0 ≤ n) && decide (n ≤ 4096) && decide (0 ≤ at_) && decide (at_ ≤ (M : Int) - n))) := hR
  clear hR
  by_cases h0 : 0 ≤ n
  · by_cases h1 : n ≤ 4096
    · by_cases h2 : 0 ≤ at_
      · go_enter Tryd.func35, Tryd.ntmps35
        go_wp2
        go_ret
        rw [HR.out]
        exact ⟨by simp [h0, h1, h2], rfl⟩
      · go_enter Tryd.func35, Tryd.ntmps35
        go_wp2
        go_ret
        rw [HR.out]
        exact ⟨by simp [h0, h1]; intros; omega, rfl⟩
    · go_enter Tryd.func35, Tryd.ntmps35
      go_wp2
      go_ret
      rw [HR.out]
      exact ⟨by simp [h0]; intros; omega, rfl⟩
  · go_enter Tryd.func35, Tryd.ntmps35
    go_wp2
    go_ret
    rw [HR.out]
    exact ⟨by simp; intros; omega, rfl⟩



set_option maxRecDepth 100000 in
set_option maxHeartbeats 1000000 in
theorem ref6Power_any (L : FLay) (s : FS) (w : World) (hD : RFlash w L s) :
    Calls Tryd.prog 14 #[.pointer (some ⟨L.g, 0, none⟩)] w fun e w' => e = .returned (.tuple #[]) ∧ RFlash w' L (powerF s) ∧ Chg L.T w w' := by
  have hx := hD.head
  unfold FLay.head at hx
  have c3 := hx.cell (j := 3) rfl
  have z3 := hx.frozen 3
  have hx2 := hx.set 3 (.int .i64 (-1))
  have c5 := hx2.cell (j := 5) rfl
  have z5 := hx2.frozen 5
  go_enter Tryd.func14, Tryd.ntmps14
  go_wp2
  go_end0
  have hc := ((Chg.refl (fun b => b = L.g) w).setCell L.g 3 (.int .i64 (-1)) (fun _ => rfl)).setCell L.g 5 (.bool false) (fun _ => rfl)
  exact ⟨rfl, hD.chgHead hc (powerF s) hD.ok.power ⟨rfl, rfl⟩ ((hx2.set 5 _).of_eq rfl), hc.weaken (fun _ h => .inl h)⟩

set_option maxRecDepth 100000 in
set_option maxHeartbeats 1000000 in
theorem ref6Arm_any (L : FLay) (s : FS) (c d : Int) (w : World) (hD : RFlash w L s) (hc : c ≤ 9223372036854775807) (hd : d ≤ 9223372036854775807) :
    Calls Tryd.prog 12 #[.pointer (some ⟨L.g, 0, none⟩), .int .i64 c, .int .i64 d] w fun e w' => e = .returned (.tuple #[]) ∧ RFlash w' L (armF s c d) ∧ Chg L.T w w' := by
  have hx := hD.head
  unfold FLay.head at hx
  have c3 := hx.cell (j := 3) rfl
  have z3 := hx.frozen 3
  have hx2 := hx.set 3 (.int .i64 (max c 0))
  have c4 := hx2.cell (j := 4) rfl
  have z4 := hx2.frozen 4
  go_enter Tryd.func12, Tryd.ntmps12
  go_wp2
  go_end0
  have hC := ((Chg.refl (fun b => b = L.g) w).setCell L.g 3 (.int .i64 (max c 0)) (fun _ => rfl)).setCell L.g 4 (.int .i64 (max d 0)) (fun _ => rfl)
  exact ⟨rfl, hD.chgHead hC (armF s c d) (hD.ok.arm c d hc hd) ⟨rfl, rfl⟩ ((hx2.set 4 _).of_eq rfl), hC.weaken (fun _ h => .inl h)⟩

set_option maxRecDepth 100000 in
set_option maxHeartbeats 1000000 in
theorem ref6Goes_any (L : FLay) (s : FS) (n : Nat) (w : World) (hD : RFlash w L s) (hn : n ≤ 4096) :
    Calls Tryd.prog 36 #[.pointer (some ⟨L.g, 0, none⟩), .int .i64 (n : Int)] w fun e w' => e = .returned (.tuple #[.int .i64 ((goesF s n).1 : Int), .int .i64 (goesF s n).2.1]) ∧ RFlash w' L (goesF s n).2.2 ∧ Chg (fun b => b = L.g) w w' := by
  have hx := hD.head
  have hk := (goesF_ok hD.ok n).1
  have ha := hD.ok.armed
  have hd := hD.ok.done
  unfold FLay.head at hx
  have c3 := hx.cell (j := 3) rfl
  have z3 := hx.frozen 3
  obtain ⟨R, hR⟩ : ∃ R, R = goesF s n := ⟨_, rfl⟩
  rw [← hR] at hk ⊢
  unfold goesF at hR
  by_cases h0 : s.armed < 0
  · rw [if_pos h0] at hR
    have HR : Hid (R = (n, 0, s)) := hR
    clear hR
    generalize s.armed = AR at *
    go_enter Tryd.func36, Tryd.ntmps36
    go_wp2
    go_ret2
    rw [HR.out]
    exact ⟨rfl, hD, Chg.refl _ _⟩
  rw [if_neg h0] at hR
  by_cases h1 : 0 < s.armed
  · rw [if_pos h1] at hR
    have HR : Hid (R = (n, 0, { s with armed := s.armed - 1 })) := hR
    have hc := (Chg.refl (fun b => b = L.g) w).setCell L.g 3 (.int .i64 (s.armed - 1)) (fun _ => rfl)
    have hD2 := hD.chgHead hc { s with armed := s.armed - 1 } (by rw [hR] at hk; exact hk) ⟨rfl, rfl⟩ ((hx.set 3 _).of_eq rfl)
    clear hR
    generalize s.armed = AR at *
    go_enter Tryd.func36, Tryd.ntmps36
    go_wp2
    go_ret2
    rw [HR.out]
    exact ⟨rfl, hD2, hc⟩
  · rw [if_neg h1] at hR
    have HR : Hid (R = ((min (n : Int) s.done).toNat, 7, { s with armed := -1, down := true })) := hR
    have hx2 := hx.set 3 (.int .i64 (-1))
    have c5 := hx2.cell (j := 5) rfl
    have z5 := hx2.frozen 5
    have hx3 := hx2.set 5 (.bool true)
    have c4 := hx3.cell (j := 4) rfl
    have hc := ((Chg.refl (fun b => b = L.g) w).setCell L.g 3 (.int .i64 (-1)) (fun _ => rfl)).setCell L.g 5 (.bool true) (fun _ => rfl)
    have hD2 := hD.chgHead hc { s with armed := -1, down := true } (by rw [hR] at hk; exact hk) ⟨rfl, rfl⟩ (hx3.of_eq rfl)
    clear hR
    generalize s.armed = AR at *
    go_enter Tryd.func36, Tryd.ntmps36
    go_wp2
    go_ret2
    rw [HR.out]
    have hmin : (((min (n : Int) s.done).toNat : Nat) : Int) = min (n : Int) s.done := by omega
    exact ⟨by simp only [hmin]; rfl, hD2, hc⟩

set_option maxRecDepth 100000 in
set_option maxHeartbeats 1000000 in
theorem ref6Read_any (L : FLay) (s : FS) (at_ n : Int) (w : World) (hD : RFlash w L s) :
    Calls Tryd.prog 24 #[.pointer (some ⟨L.g, 0, none⟩), .int .i64 at_, .int .i64 n] w fun e w' => ∃ v, e = .returned (.tuple #[v, .int .i64 (readF s at_ n).2]) ∧ Own w' w.heap.size v (readF s at_ n).1 ∧ Below w.heap.size w w' := by
  have hx := hD.head
  have hl := hD.len
  have hm := hD.m_le
  unfold FLay.head at hx
  have c0 := hx.cell (j := 0) rfl
  have c5 := hx.cell (j := 5) rfl
  have HT : Hid (Calls Tryd.prog 35 #[.pointer (some ⟨L.g, 0, none⟩), .int .i64 at_, .int .i64 n] w fun e w' => e = .returned (.bool (thereB s at_ n)) ∧ w = w') := ref6There_any L s at_ n w hD
  obtain ⟨R, hR⟩ : ∃ R, R = readF s at_ n := ⟨_, rfl⟩
  rw [← hR]
  unfold readF at hR
  cases hd : s.down with
  | true =>
    rw [hd] at c5 hR
    have HR : Hid (R = ([], 7)) := hR
    clear hR hd
    go_enter Tryd.func24, Tryd.ntmps24
    go_wp2
    go_ret2
    rw [HR.out]
    exact ⟨_, rfl, ⟨rfl, .inl ⟨rfl, rfl⟩⟩, Below.refl _ _⟩
  | false =>
    rw [hd] at c5 hR
    cases ht : thereB s at_ n with
    | false =>
      rw [ht] at hR HT
      have HR : Hid (R = ([], 1)) := hR
      clear hR hd ht
      go_enter Tryd.func24, Tryd.ntmps24
      go_wp2_with (go_at_call 35; refine HT.out.mono ?_; rintro e w1 ⟨rfl, rfl⟩)
      go_ret2
      rw [HR.out]
      exact ⟨_, rfl, ⟨rfl, .inl ⟨rfl, rfl⟩⟩, Below.refl _ _⟩
    | true =>
      rw [ht] at hR HT
      have HR : Hid (R = ((s.b.drop at_.toNat).take n.toNat, 0)) := hR
      unfold thereB at ht
      simp only [Bool.and_eq_true, decide_eq_true_eq, hl] at ht
      obtain ⟨⟨⟨h0, h1⟩, h2⟩, h3⟩ := ht
      obtain ⟨A, rfl⟩ : ∃ A : Nat, at_ = (A : Int) := ⟨at_.toNat, by omega⟩
      obtain ⟨K, rfl⟩ : ∃ K : Nat, n = (K : Int) := ⟨n.toNat, by omega⟩
      rw [Int.toNat_natCast, Int.toNat_natCast] at HR
      have hAK : A + K ≤ L.m := by omega
      have hsg : Seg w (.slice (some ⟨L.bb, 0, none⟩) L.m L.m) s.b := .inr ⟨L.bb, 0, L.m, by rw [hl], by omega, hD.b.row, hD.b.lt⟩
      have hsd := (Seg.takesD (Seg.dropsD hsg A (by omega)) K (by omega)).1
      have hsl : ∀ w, (Instr.slice 41 (.slice (some ⟨L.bb, 0, none⟩) L.m L.m) (some (.int .i64 (A : Int))) (some (.int .i64 ((A : Int) + (K : Int)))) none).run Tryd.prog w = .ok (.slice (restD (some ⟨L.bb, 0, none⟩) L.m A) K (L.m - A)) w := fun w => by
        have := slice_midD (some ⟨L.bb, 0, none⟩) L.m L.m A (A + K) (by omega) hAK w
        rw [Nat.add_sub_cancel_left] at this
        exact_mod_cast this
      have hrl : ((s.b.drop A).take K).length = K := by rw [List.length_take, List.length_drop]; omega
      have hlen : ([] : List UInt8).length + ((s.b.drop A).take K).length ≤ 1000000000 := by rw [hrl]; simp; omega
      have l0 := hx.lt
      have l1 : L.g ≠ w.heap.size := by omega
      clear hR hd h3
      generalize (s.b.drop A).take K = ROW at *
      generalize restD (some ⟨L.bb, 0, none⟩) L.m A = AV at *
      generalize L.m - A = CV at *
      go_enter Tryd.func24, Tryd.ntmps24
      go_wp2_with (first | (go_at_call 35; refine HT.out.mono ?_; rintro e w1 ⟨rfl, rfl⟩) | (at_builtin; refine app_own _ rfl (.tmp 19) (.tmp 28) rfl w.heap.size _ [] rfl (by exact own_emptyD _ _ _ rfl (Nat.le_refl _)) _ ROW rfl (by exact hsd.alloc _) hlen (by simp) ?_; intro v2 w2 ho2 hg2 hv2; rw [List.nil_append] at ho2; have hB2 := below_grown ((Below.refl w.heap.size w).alloc (Nat.le_refl _) _) hg2 (by simp) (fun q hq => by have h2 : w.heap.size = q := Option.some.inj hq; omega)))
      go_ret2
      rw [HR.out]
      exact ⟨_, rfl, ho2, hB2⟩
end Go.Proofs.YtbdhkkdombdnkaaDoor
namespace Go.Proofs.YtbdhkkdombdnkaaDoor
open Go.RowKit

theorem RFlash.setByte {w : World} {L : FLay} {s : FS} (h : RFlash w L s) (k : Nat) (x : UInt8) : RFlash (w.setCell ⟨L.bb, k, none⟩ (v8 x)) L { s with b := s.b.set k x } := by
  have hc : Chg (fun q => q = L.bb) w (w.setCell ⟨L.bb, k, none⟩ (v8 x)) := (Chg.refl _ w).setCell L.bb k _ (fun _ => rfl)
  exact ⟨⟨by show (s.b.set _ _).length = _; rw [List.length_set]; exact h.ok.b, h.ok.worn, h.ok.one, h.ok.cap, h.ok.most, h.ok.worns, h.ok.armed, h.ok.done⟩, h.gb, h.gw, h.bw, h.m, h.head.chg hc h.gb, (h.b.set k (v8 x)).of_eq (by simp [List.map_set]), h.worn.chg hc (fun e => h.bw e.symm)⟩
theorem bits_and8 (x y : UInt8) : bits .and .u8 (n8 x) (n8 y) = n8 (x &&& y) := by
  have h : ∀ a b : Nat, a < 256 → b < 256 → bits .and .u8 (a : Int) (b : Int) = ((a &&& b : Nat) : Int) := fun a b ha hb => by
    show IntKind.u8.wrap ((BitVec.ofInt 8 (a : Int) &&& BitVec.ofInt 8 (b : Int)).toNat : Int) = _
    rw [BitVec.ofInt_natCast, BitVec.ofInt_natCast, BitVec.toNat_and, BitVec.toNat_ofNat, BitVec.toNat_ofNat, Nat.mod_eq_of_lt ha, Nat.mod_eq_of_lt hb, wrap_u8_nat, Nat.mod_eq_of_lt (Nat.lt_of_le_of_lt Nat.and_le_left ha)]
  unfold n8
  rw [h _ _ x.toNat_lt y.toNat_lt, UInt8.toNat_and]
theorem bytes_at {l : List UInt8} {k : Nat} (h : k < l.length) : ((l.map v8).toArray)[k]? = some (v8 (l.getD k 0)) := by
  simp [h]

theorem index_bytesZ (b off len c : Nat) (z : Int) (I : Nat) (hz : z = (I : Int)) (h : I < len) (w : World) : (Instr.indexAt 41 (.slice (some ⟨b, off, none⟩) len c) (.int .i64 z)).run Tryd.prog w = .ok (.pointer (some ⟨b, off + I, none⟩)) w := by
  subst hz
  have hi : (0 : Int) ≤ (I : Int) ∧ (I : Int) < (len : Int) := by omega
  simp [Instr.indexAt, asIntOf, run_underlying Tryd.underlying41, hi, Addr.add_mid]
  intro h2
  omega

set_option maxRecDepth 100000 in
set_option maxHeartbeats 2000000 in
theorem ref6Program_any (L : FLay) (s : FS) (at_ : Int) (x : Value) (bs : List UInt8) (w : World) (hD : RFlash w L s) (hS : Seg w x bs) (hx : 0 < bs.length → ∀ q, x.ownBlock = some q → ¬ L.T q) :
    Calls Tryd.prog 16 #[.pointer (some ⟨L.g, 0, none⟩), .int .i64 at_, x] w fun e w' => e = .returned (.int .i64 (programF s at_ bs).1) ∧ RFlash w' L (programF s at_ bs).2 ∧ Chg L.T w w' := by
  have hh := hD.head
  have hl := hD.len
  have hml := hD.m_le
  unfold FLay.head at hh
  have c5 := hh.cell (j := 5) rfl
  obtain ⟨ab, cb, rfl⟩ := Seg.shapeD hS
  have HT : Hid (Calls Tryd.prog 35 #[.pointer (some ⟨L.g, 0, none⟩), .int .i64 at_, .int .i64 (bs.length : Int)] w fun e w' => e = .returned (.bool (thereB s at_ bs.length)) ∧ w = w') := ref6There_any L s at_ _ w hD
  obtain ⟨R, hR⟩ : ∃ R, R = programF s at_ bs := ⟨_, rfl⟩
  rw [← hR]
  unfold programF at hR
  cases ht : thereB s at_ bs.length with
  | false =>
    rw [ht] at hR HT
    have HR : Hid (R = (1, s)) := hR
    clear hR ht
    go_enter Tryd.func16, Tryd.ntmps16
    go_wp2_with (go_at_call 35; refine HT.out.mono ?_; rintro e w1 ⟨rfl, rfl⟩)
    go_ret
    rw [HR.out]
    exact ⟨rfl, hD, Chg.refl _ _⟩
  | true =>
    rw [ht] at hR HT
    cases hd : s.down with
    | true =>
      rw [hd] at c5 hR
      have HR : Hid (R = (7, s)) := hR
      clear hR ht hd
      go_enter Tryd.func16, Tryd.ntmps16
      go_wp2_with (go_at_call 35; refine HT.out.mono ?_; rintro e w1 ⟨rfl, rfl⟩)
      go_ret
      rw [HR.out]
      exact ⟨rfl, hD, Chg.refl _ _⟩
    | false =>
      rw [hd] at c5 hR
      unfold thereB at ht
      simp only [Bool.and_eq_true, decide_eq_true_eq, hl] at ht
      obtain ⟨⟨⟨h0, h1⟩, h2⟩, h3⟩ := ht
      obtain ⟨A, rfl⟩ : ∃ A : Nat, at_ = (A : Int) := ⟨at_.toNat, by omega⟩
      have hbl : bs.length ≤ 4096 := by omega
      have HG : Hid (Calls Tryd.prog 36 #[.pointer (some ⟨L.g, 0, none⟩), .int .i64 (bs.length : Int)] w fun e w' => e = .returned (.tuple #[.int .i64 ((goesF s bs.length).1 : Int), .int .i64 (goesF s bs.length).2.1]) ∧ RFlash w' L (goesF s bs.length).2.2 ∧ Chg (fun b => b = L.g) w w') := ref6Goes_any L s bs.length w hD hbl
      obtain ⟨-, hk1, hk2, -, -⟩ := goesF_ok hD.ok bs.length
      have HR : Hid (R = ((goesF s bs.length).2.1, { (goesF s bs.length).2.2 with b := progL s.b A bs (goesF s bs.length).1 })) := hR
      clear hR hd
      generalize goesF s bs.length = M at *
      obtain ⟨k, e1, s1⟩ := M
      have hk1' : k ≤ bs.length := hk1
      have hk2' : s1.b = s.b := hk2
      clear hk1 hk2
      go_enter Tryd.func16, Tryd.ntmps16
      go_wp2_with (first | (go_at_call 35; refine HT.out.mono ?_; rintro e w1 ⟨rfl, rfl⟩) | (go_at_call 36; refine HG.out.mono ?_; rintro e w1 ⟨rfl, hD1, hc1⟩))
      have hS1 : Seg w1 (.slice ab bs.length cb) bs := hS.chg hc1 (fun h0 q hq e => hx h0 q hq (.inl e))
      go_loopw [10] (fun i wr => ∃ I : Nat, I ≤ k ∧ i = .int .i64 (I : Int) ∧ RFlash wr L { s1 with b := progL s.b A bs I } ∧ Chg L.T w1 wr) (fun i _ => k - (intOf i).toNat)
      case atStart => exact ⟨0, Nat.zero_le _, rfl, by rw [progL_zero, ← hk2']; exact hD1, Chg.refl _ _⟩
      case round =>
        obtain ⟨I, hI, rfl, hDi, hCi⟩ := hrel
        by_cases hlt : I < k
        · have i1 : (I : Int) < (k : Int) := by omega
          have hhi := hDi.head
          unfold FLay.head at hhi
          have c0 := hhi.cell (j := 0) rfl
          have hSi : Seg wr (.slice ab bs.length cb) bs := hS1.chg hCi hx
          obtain ⟨qb, qo, rfl, hqc, hrow, _⟩ := hSi.formD (by omega)
          have d1 : wr.cell? ⟨qb, qo + I, none⟩ = some (.int .u8 (n8 (bs.getD I 0))) := by
            have := hrow I (by omega)
            rw [this]
            simp [show I < bs.length by omega]
          have hbl2 : (progL s.b A bs I).length = L.m := by rw [progL_len, hl]
          obtain ⟨P, hP⟩ : ∃ P, P = A + I := ⟨_, rfl⟩
          have hPm : P < L.m := by omega
          have d0 : wr.cell? ⟨L.bb, P, none⟩ = some (.int .u8 (n8 ((progL s.b A bs I).getD P 0))) := hDi.b.cell (bytes_at (by show P < (progL s.b A bs I).length; rw [hbl2]; exact hPm))
          have z0 := hDi.b.frozen P
          have HN : Hid ((progL s.b A bs I).set P ((progL s.b A bs I).getD P 0 &&& bs.getD I 0) = progL s.b A bs (I + 1)) := by show _ = _; rw [hP]; exact progL_step s.b A bs I (by omega)
          have hwr : IntKind.i64.wrap ((A : Int) + (I : Int)) = (P : Int) := by rw [IntKind.wrap_i64]; omega
          have hA2 : (P : Int) < (L.m : Int) := by omega
          have hA3 : (I : Int) < (bs.length : Int) := by omega
          have hD4 : RFlash (wr.setCell ⟨L.bb, P, none⟩ (v8 ((progL s.b A bs I).getD P 0 &&& bs.getD I 0))).drew L { s1 with b := progL s.b A bs (I + 1) } := by have := (hDi.setByte P ((progL s.b A bs I).getD P 0 &&& bs.getD I 0)).after ((Below.refl _ _).drew); rw [← HN.out]; exact this
          have hC4 := (hCi.setCell L.bb P (v8 ((progL s.b A bs I).getD P 0 &&& bs.getD I 0)) (fun _ => .inr (.inl rfl))).drew
          clear HN hP
          generalize (progL s.b A bs I).getD P 0 = X at *
          generalize bs.getD I 0 = Y at *
          unfold v8 at hD4 hC4
          rw [← bits_and8] at hD4 hC4
          go_wp2
          go_still_tail 21, (by kernel_rfl)
          go_wp2_with fail
          go_roundw
          case rel => exact ⟨I + 1, hlt, by go_num, hD4, hC4⟩
          case measure => simp [intOf]; omega
        · have i1 : ¬ (I : Int) < (k : Int) := by omega
          have HE : Hid (I = k) := by show _ = _; omega
          go_wp2
          go_ret
          rw [HR.out, ← HE.out]
          exact ⟨rfl, hDi, (hc1.weaken (fun _ h => .inl h)).trans (S' := L.T) hCi (fun _ _ h => h)⟩

theorem RFlash.setWorn {w : World} {L : FLay} {s : FS} (h : RFlash w L s) (k x : Nat) (hx : x ≤ s.most) : RFlash (w.setCell ⟨L.bw, k, none⟩ (.int .i64 (x : Int))) L { s with worn := s.worn.set k x } := by
  have hc : Chg (fun q => q = L.bw) w (w.setCell ⟨L.bw, k, none⟩ (.int .i64 (x : Int))) := (Chg.refl _ w).setCell L.bw k _ (fun _ => rfl)
  refine ⟨⟨h.ok.b, by show (s.worn.set _ _).length = _; rw [List.length_set]; exact h.ok.worn, h.ok.one, h.ok.cap, h.ok.most, fun y hy => ?_, h.ok.armed, h.ok.done⟩, h.gb, h.gw, h.bw, h.m, h.head.chg hc h.gw, h.b.chg hc h.bw, (h.worn.set k _).of_eq (by simp [wornV, List.map_set])⟩
  rcases List.mem_or_eq_of_mem_set hy with hy | hy
  · exact h.ok.worns y hy
  · rw [hy]; exact hx

set_option maxRecDepth 100000 in
set_option maxHeartbeats 2000000 in
theorem ref6Erase_any (L : FLay) (s : FS) (b : Int) (w : World) (hD : RFlash w L s) :
    Calls Tryd.prog 18 #[.pointer (some ⟨L.g, 0, none⟩), .int .i64 b] w fun e w' => e = .returned (.int .i64 (eraseF s b).1) ∧ RFlash w' L (eraseF s b).2 ∧ Chg L.T w w' := by
  have hh := hD.head
  have hl := hD.len
  have hml := hD.m_le
  have hwl := hD.ok.worn
  have hmo := hD.ok.most
  unfold FLay.head at hh
  have c1 := hh.cell (j := 1) rfl
  have c2 := hh.cell (j := 2) rfl
  have c5 := hh.cell (j := 5) rfl
  obtain ⟨R, hR⟩ : ∃ R, R = eraseF s b := ⟨_, rfl⟩
  rw [← hR]
  unfold eraseF at hR
  rw [hwl] at hR
  by_cases hk : b < 0 ∨ (L.n : Int) ≤ b
  · have HR : Hid (R = (1, s)) := by show _ = _; rw [hR, if_pos hk]
    clear hR
    rcases hk with hk | hk
    · go_enter Tryd.func18, Tryd.ntmps18
      go_wp2
      go_ret
      rw [HR.out]
      exact ⟨rfl, hD, Chg.refl _ _⟩
    · have hk0 : ¬ b < 0 := by omega
      go_enter Tryd.func18, Tryd.ntmps18
      go_wp2
      go_ret
      rw [HR.out]
      exact ⟨rfl, hD, Chg.refl _ _⟩
  rw [if_neg hk] at hR
  obtain ⟨B, rfl⟩ : ∃ B : Nat, b = (B : Int) := ⟨b.toNat, by omega⟩
  have hk0 : ¬ (B : Int) < 0 := by omega
  have hkn : ¬ (L.n : Int) ≤ (B : Int) := by omega
  have hkm : (B : Int) < (L.n : Int) := by omega
  have hBn : B < L.n := by omega
  clear hk
  rw [Int.toNat_natCast] at hR
  cases hd : s.down with
  | true =>
    rw [hd] at c5 hR
    have HR : Hid (R = (7, s)) := hR
    clear hR hd
    go_enter Tryd.func18, Tryd.ntmps18
    go_wp2
    go_ret
    rw [HR.out]
    exact ⟨rfl, hD, Chg.refl _ _⟩
  | false =>
    rw [hd] at c5 hR
    have d1 := hD.worn.cell (wornV_at (l := s.worn) (k := B) (by omega))
    by_cases hw : s.most ≤ s.worn.getD B 0
    · have HR : Hid (R = (8, s)) := by show _ = _; rw [hR, if_neg (by simp), if_pos hw]
      have hw' : (s.most : Int) ≤ ((s.worn.getD B 0 : Nat) : Int) := by omega
      clear hR hd
      generalize s.worn.getD B 0 = X at *
      go_enter Tryd.func18, Tryd.ntmps18
      go_wp2
      go_still (by kernel_rfl)
      go_wp2
      go_ret
      rw [HR.out]
      exact ⟨rfl, hD.after ((Below.refl _ _).drew), (Chg.refl _ _).drew⟩
    · have hw' : ¬ (s.most : Int) ≤ ((s.worn.getD B 0 : Nat) : Int) := by omega
      have hw2 : s.worn.getD B 0 < s.most := by omega
      have HG : Hid (Calls Tryd.prog 36 #[.pointer (some ⟨L.g, 0, none⟩), .int .i64 1024] w.drew fun e w' => e = .returned (.tuple #[.int .i64 ((goesF s 1024).1 : Int), .int .i64 (goesF s 1024).2.1]) ∧ RFlash w' L (goesF s 1024).2.2 ∧ Chg (fun b => b = L.g) w.drew w') := ref6Goes_any L s 1024 w.drew (hD.after ((Below.refl _ _).drew)) (by omega)
      obtain ⟨-, hk1, hk2, hk3, hk4⟩ := goesF_ok hD.ok 1024
      have HR : Hid (R = ((goesF s 1024).2.1, { (goesF s 1024).2.2 with b := onesL s.b (1024 * B) (goesF s 1024).1, worn := s.worn.set B (s.worn.getD B 0 + 1) })) := by show _ = _; rw [hR, if_neg (by simp), if_neg hw]
      obtain ⟨Q, hQ⟩ : ∃ Q, Q = 1024 * B := ⟨_, rfl⟩
      rw [← hQ] at HR
      have HQ : Hid (Q = 1024 * B) := hQ
      have hcap := hD.ok.cap
      have hwq : IntKind.i64.wrap (1024 * (B : Int)) = (Q : Int) := by rw [IntKind.wrap_i64]; omega
      clear hR hd hw hQ
      generalize goesF s 1024 = M at *
      obtain ⟨k, e1, s1⟩ := M
      have hk1' : k ≤ 1024 := hk1
      have hk2' : s1.b = s.b := hk2
      have hk3' : s1.worn = s.worn := hk3
      have hk4' : s1.most = s.most := hk4
      clear hk1 hk2 hk3 hk4
      obtain ⟨X, hX⟩ : ∃ X, X = s.worn.getD B 0 := ⟨_, rfl⟩
      rw [← hX] at d1 hw' hw2 HR
      have HX : Hid (X = s.worn.getD B 0) := hX
      have hw3 : (X : Int) < (s.most : Int) := by omega
      clear hX
      go_enter Tryd.func18, Tryd.ntmps18
      go_wp2
      go_still (by kernel_rfl)
      go_wp2_with (go_at_call 36; refine HG.out.mono ?_; rintro e w1 ⟨rfl, hD1, hc1⟩)
      go_loopw [7] (fun i wr => ∃ I : Nat, I ≤ k ∧ i = .int .i64 (I : Int) ∧ RFlash wr L { s1 with b := onesL s.b Q I } ∧ Chg L.T w1 wr) (fun i _ => k - (intOf i).toNat)
      case atStart => exact ⟨0, Nat.zero_le _, rfl, by rw [onesL_zero, ← hk2']; exact hD1, Chg.refl _ _⟩
      case round =>
        obtain ⟨I, hI, rfl, hDi, hCi⟩ := hrel
        have hhi := hDi.head
        unfold FLay.head at hhi
        have c0 := hhi.cell (j := 0) rfl
        by_cases hlt : I < k
        · have i1 : (I : Int) < (k : Int) := by omega
          obtain ⟨P, hP⟩ : ∃ P, P = Q + I := ⟨_, rfl⟩
          have hm2 := hD.m
          have hQ := HQ.out
          have hbl2 : (onesL s.b Q I).length = L.m := by rw [onesL_len, hl]
          have hPm : P < L.m := by omega
          have d0 : wr.cell? ⟨L.bb, P, none⟩ = some (.int .u8 (n8 ((onesL s.b Q I).getD P 0))) := hDi.b.cell (bytes_at (by show P < (onesL s.b Q I).length; rw [hbl2]; exact hPm))
          have z0 := hDi.b.frozen P
          have hN : (onesL s.b Q I).set P 255 = onesL s.b Q (I + 1) := by rw [hP]; exact onesL_step s.b Q I (by omega)
          have hD4 : RFlash (wr.setCell ⟨L.bb, P, none⟩ (v8 255)) L { s1 with b := onesL s.b Q (I + 1) } := by have := hDi.setByte P 255; rw [← hN]; exact this
          have hC4 := hCi.setCell L.bb P (v8 255) (fun _ => .inr (.inl rfl))
          have hwr : IntKind.i64.wrap ((Q : Int) + (I : Int)) = (P : Int) := by rw [IntKind.wrap_i64]; omega
          have hA2 : (P : Int) < (L.m : Int) := by omega
          clear hN hP hm2 hQ
          generalize (onesL s.b Q I).getD P 0 = Y at *
          go_wp2
          go_roundw
          case rel => exact ⟨I + 1, hlt, by go_num, hD4, hC4⟩
          case measure => simp [intOf]; omega
        · have i1 : ¬ (I : Int) < (k : Int) := by omega
          have HE : Hid (I = k) := by show _ = _; omega
          have hmo1 : X + 1 ≤ s1.most := by omega
          have c1i := hhi.cell (j := 1) rfl
          have d1i : wr.cell? ⟨L.bw, B, none⟩ = some (.int .i64 (X : Int)) := by
            have := hDi.worn.cell (wornV_at (l := s1.worn) (k := B) (by rw [hk3']; omega))
            rw [this, hk3', ← HX.out]
          have z1i := hDi.worn.frozen B
          have hD5 := hDi.setWorn B (X + 1) hmo1
          have hC5 := hCi.setCell L.bw B (.int .i64 ((X + 1 : Nat) : Int)) (fun _ => .inr (.inr rfl))
          go_wp2
          go_ret
          rw [HR.out, ← HE.out]
          have hfin : ({ s1 with b := onesL s.b Q I, worn := s.worn.set B (X + 1) } : FS) = { { s1 with b := onesL s.b Q I } with worn := s1.worn.set B (X + 1) } := by rw [hk3']
          refine ⟨rfl, ?_, ((Chg.refl _ w).drew.trans (hc1.weaken (fun _ h => .inl h)) (fun _ _ h => h)).trans (S' := L.T) hC5 (fun _ _ h => h)⟩
          show RFlash _ L ({ s1 with b := onesL s.b Q I, worn := s.worn.set B (X + 1) } : FS)
          rw [hfin]
          exact hD5
end Go.Proofs.YtbdhkkdombdnkaaDoor
namespace Go.Proofs.YtbdhkkdombdnkaaDoor
open Go.RowKit

theorem Tryd.info5q : (Tryd.prog.info? 5).map (fun i => (i.zero, i.size, i.bytes)) = some (some (.int .u8 0), 1, 1) := by kernel_rfl
theorem Tryd.info3q : (Tryd.prog.info? 3).map (fun i => (i.zero, i.size, i.bytes)) = some (some (.int .i64 0), 1, 8) := by kernel_rfl
def zbytes (n : Nat) : Array Value := ((List.replicate n (0 : UInt8)).map v8).toArray
def zints (n : Nat) : Array Value := wornV (List.replicate n 0)
theorem made_zbytes (n : Nat) : madeCells #[Value.int .u8 0] n = zbytes n := by
  unfold zbytes
  apply Array.ext
  · simp [madeCells]
  · intro i h1 h2
    have : v8 0 = Value.int .u8 0 := rfl
    simp [madeCells, this, Nat.mod_one]
theorem made_zints (n : Nat) : madeCells #[Value.int .i64 0] n = zints n := by
  unfold zints wornV
  apply Array.ext
  · simp [madeCells]
  · intro i h1 h2
    simp [madeCells, Nat.mod_one]
theorem exec_mkB {a : Act} {o : Oper} {w : World} (x : Operand) (ho : o.op = .makeSlice 41 x x) (n b : Nat) (w' : World) (hx : a.eval x = .int .i64 (n : Int)) (hn : n ≤ 1000000) (hb : b = w.heap.size) (hw : w' = w.alloc (.cells (zbytes n) 5)) : (execOp a.eval o).run Tryd.prog w = .ok (.value (.slice (some ⟨b, 0, none⟩) n n)) w' := by
  subst hb hw
  have := run_make_row' (P := Tryd.prog) 41 5 (.int .u8 0) 1 Tryd.underlying41 Tryd.info5q rfl .i64 .i64 n (by omega) (by omega) w
  rw [made_zbytes] at this
  unfold execOp
  simp only [ho, hx]
  rw [Sem.run_bind, this]
  rfl
theorem exec_mkI {a : Act} {o : Oper} {w : World} (x : Operand) (ho : o.op = .makeSlice 59 x x) (n b : Nat) (w' : World) (hx : a.eval x = .int .i64 (n : Int)) (hn : n ≤ 1000000) (hb : b = w.heap.size) (hw : w' = w.alloc (.cells (zints n) 3)) : (execOp a.eval o).run Tryd.prog w = .ok (.value (.slice (some ⟨b, 0, none⟩) n n)) w' := by
  subst hb hw
  have := run_make_row' (P := Tryd.prog) 59 3 (.int .i64 0) 8 Tryd.underlying59 Tryd.info3q rfl .i64 .i64 n (by omega) (by omega) w
  rw [made_zints] at this
  unfold execOp
  simp only [ho, hx]
  rw [Sem.run_bind, this]
  rfl
theorem exec_muli {a : Act} {o : Oper} {w : World} (t : TypeId) (x y : Operand) (ho : o.op = .binOp .mul t x y t) (m n r : Int) (hx : a.eval x = .int .i64 m) (hy : a.eval y = .int .i64 n) (h : IntKind.i64.wrap (m * n) = r) : (execOp a.eval o).run Tryd.prog w = .ok (.value (.int .i64 r)) w := by
  unfold execOp
  simp [ho, hx, hy]
  rw [← h]
  rfl
/-- Two new blocks: bytes, numbers. -/
structure Two (w W : World) (b1 b2 M n : Nat) : Prop where
  b : Blk W b1 5 (zbytes M)
  i : Blk W b2 3 (zints n)
  ne : b1 ≠ b2
  l1 : w.heap.size ≤ b1
  l2 : w.heap.size ≤ b2
  below : Below w.heap.size w W
theorem Two.flash {w W0 W : World} {b1 b2 M n g k : Nat} (h : Two w W0 b1 b2 M n) (h1 : 1 ≤ n) (h2 : n ≤ 256) (h4 : k ≤ 10000) (hM : M = 1024 * n) (hg : g = W0.heap.size) (hW : W = W0.alloc (.cells #[.slice (some ⟨b1, 0, none⟩) M M, .slice (some ⟨b2, 0, none⟩) n n, .int .i64 (k : Int), .int .i64 (-1), .int .i64 0, .bool false] 63)) : RFlash W ⟨g, b1, b2, n, M⟩ { newF n k with b := List.replicate M 0 } := by
  have k0 := newF_ok n k h1 h2 h4
  have l1 := h.b.lt
  have l2 := h.i.lt
  subst hW
  exact ⟨⟨by show (List.replicate M (0 : UInt8)).length = _; rw [List.length_replicate, hM], k0.worn, k0.one, k0.cap, k0.most, k0.worns, k0.armed, k0.done⟩, by show g ≠ b1; omega, by show g ≠ b2; omega, h.ne, hM, Blk.newAt _ _ _ _ hg, h.b.alloc _, h.i.alloc _⟩
theorem Two.bel {w W0 W : World} {b1 b2 M n : Nat} (h : Two w W0 b1 b2 M n) {o : Obj} (hW : W = W0.alloc o) : Below w.heap.size w W := by
  subst hW
  exact h.below.alloc h.below.size _
theorem ones_all (M : Nat) : onesL (List.replicate M 0) 0 M = List.replicate M 255 := by
  refine bytes_ext (by rw [onesL_len, List.length_replicate, List.length_replicate]) fun i hi => ?_
  rw [onesL_len, List.length_replicate] at hi
  rw [onesL_at _ _ _ _ (by rw [List.length_replicate]; exact hi), if_pos (by omega)]
  simp [hi]

set_option maxRecDepth 100000 in
theorem ref6New_bad (n k : Int) (w : World) (h : n < 1 ∨ 256 < n ∨ k < 1 ∨ 10000 < k) :
    Calls Tryd.prog 8 #[.int .i64 n, .int .i64 k] w fun e w' => e = .returned (.tuple #[.pointer none, .int .i64 1]) ∧ w = w' := by
  by_cases h1 : n < 1
  · clear h
    go_enter Tryd.func8, Tryd.ntmps8
    go_wp2
    go_ret2
    exact ⟨rfl, rfl⟩
  by_cases h2 : 256 < n
  · clear h
    go_enter Tryd.func8, Tryd.ntmps8
    go_wp2
    go_ret2
    exact ⟨rfl, rfl⟩
  by_cases h3 : k < 1
  · clear h
    go_enter Tryd.func8, Tryd.ntmps8
    go_wp2
    go_ret2
    exact ⟨rfl, rfl⟩
  · have h4 : 10000 < k := by omega
    clear h
    go_enter Tryd.func8, Tryd.ntmps8
    go_wp2
    go_ret2
    exact ⟨rfl, rfl⟩

set_option maxRecDepth 100000 in
set_option maxHeartbeats 1000000 in
theorem ref6New_any (n k : Nat) (w : World) (h1 : 1 ≤ n) (h2 : n ≤ 256) (h3 : 1 ≤ k) (h4 : k ≤ 10000) :
    Calls Tryd.prog 8 #[.int .i64 (n : Int), .int .i64 (k : Int)] w fun e w' => ∃ L : FLay, e = .returned (.tuple #[.pointer (some ⟨L.g, 0, none⟩), .int .i64 0]) ∧ L.n = n ∧ RFlash w' L (newF n k) ∧ Below w.heap.size w w' ∧ (∀ q, L.T q → w.heap.size ≤ q) := by
  have a1 : ¬ (n : Int) < 1 := by omega
  have a2 : ¬ (256 : Int) < (n : Int) := by omega
  have a3 : ¬ (k : Int) < 1 := by omega
  have a4 : ¬ (10000 : Int) < (k : Int) := by omega
  obtain ⟨M, hM⟩ : ∃ M, M = 1024 * n := ⟨_, rfl⟩
  have hwm : IntKind.i64.wrap (1024 * (n : Int)) = (M : Int) := by rw [IntKind.wrap_i64]; omega
  have HM : Hid (M = 1024 * n) := hM
  clear hM
  go_enter Tryd.func8, Tryd.ntmps8
  go_wp2
  obtain ⟨bA, hA⟩ : ∃ b, b = w.heap.size := ⟨_, rfl⟩
  obtain ⟨bB, hB⟩ : ∃ b, b = w.heap.size + 1 := ⟨_, rfl⟩
  obtain ⟨V1, hV1⟩ : ∃ V, V = w.drew.alloc (.cells (zbytes M) 5) := ⟨_, rfl⟩
  obtain ⟨V2, hV2⟩ : ∃ V, V = V1.alloc (.cells (zints n) 3) := ⟨_, rfl⟩
  obtain ⟨U1, hU1⟩ : ∃ V, V = w.drew.alloc (.cells (zints n) 3) := ⟨_, rfl⟩
  obtain ⟨U2, hU2⟩ : ∃ V, V = U1.alloc (.cells (zbytes M) 5) := ⟨_, rfl⟩
  have hMx : M ≤ 1000000 := by have := HM.out; omega
  refine held_begin (fun _ => True) (by kernel_rfl) ?_
  refine held_take 0 22 _ (.int .i64 (n : Int)) rfl rfl (by kernel_rfl) (by kernel_rfl) (by kernel_rfl) rfl trivial (fun _ _ => rfl) ?_
  simp only [Act.put, List.setIfInBounds_toArray, List.set_cons_succ, List.set_cons_zero]
  refine held_take 1 23 _ (.int .i64 (M : Int)) rfl rfl (by kernel_rfl) (by kernel_rfl) (by kernel_rfl) rfl trivial (fun _ _ => exec_muli 3 _ _ rfl _ _ _ rfl rfl hwm) ?_
  simp only [Act.put, List.setIfInBounds_toArray, List.set_cons_succ, List.set_cons_zero]
  refine held_take 3 25 _ (.int .i64 (n : Int)) rfl rfl (by kernel_rfl) (by kernel_rfl) (by kernel_rfl) rfl trivial (fun _ _ => rfl) ?_
  simp only [Act.put, List.setIfInBounds_toArray, List.set_cons_succ, List.set_cons_zero]
  refine held_take 5 27 _ (.int .i64 (k : Int)) rfl rfl (by kernel_rfl) (by kernel_rfl) (by kernel_rfl) rfl trivial (fun _ _ => rfl) ?_
  simp only [Act.put, List.setIfInBounds_toArray, List.set_cons_succ, List.set_cons_zero]
  refine held_all2 2 4 (by kernel_rfl) (op_value 2 24 _ _ V1 rfl rfl rfl (exec_mkB _ rfl M bA V1 rfl hMx hA hV1) ⟨trivial, ?_⟩) (op_value 4 26 _ _ U1 rfl rfl rfl (exec_mkI _ rfl n bA U1 rfl (by omega) hA hU1) ⟨trivial, ?_⟩)
  · simp only [Act.put, List.setIfInBounds_toArray, List.set_cons_succ, List.set_cons_zero]
    refine held_all1 4 (by kernel_rfl) (op_value 4 26 _ _ V2 rfl rfl rfl (exec_mkI _ rfl n bB V2 rfl (by omega) (by rw [hB, hV1]; simp) hV2) ⟨trivial, ?_⟩)
    simp only [Act.put, List.setIfInBounds_toArray, List.set_cons_succ, List.set_cons_zero]
    have hF : Two w V2 bA bB M n := by
      subst hA hB hV2 hV1
      exact ⟨(Blk.new _ _ _).alloc _, Blk.newAt _ _ _ _ (by simp), by omega, Nat.le_refl _, by omega, ((Below.refl _ w).drew.alloc (Nat.le_refl _) _).alloc (by simp) _⟩
    clear hA hB hV2 hV1 hU1 hU2
    refine held_all1 6 (by kernel_rfl) (op_value 6 28 _ (.agg #[.slice (some ⟨bA, 0, none⟩) M M, .slice (some ⟨bB, 0, none⟩) n n, .int .i64 (k : Int), .int .i64 (-1), .int .i64 0, .bool false]) V2 rfl rfl rfl (by kernel_rfl) ⟨trivial, ?_⟩)
    simp only [Act.put, List.setIfInBounds_toArray, List.set_cons_succ, List.set_cons_zero]
    obtain ⟨g, hg⟩ : ∃ g, g = V2.heap.size := ⟨_, rfl⟩
    obtain ⟨W, hW⟩ : ∃ W, W = V2.alloc (.cells #[.slice (some ⟨bA, 0, none⟩) M M, .slice (some ⟨bB, 0, none⟩) n n, .int .i64 (k : Int), .int .i64 (-1), .int .i64 0, .bool false] 63) := ⟨_, rfl⟩
    refine held_all1 7 (by kernel_rfl) (op_value 7 29 _ (.pointer (some ⟨g, 0, none⟩)) W rfl rfl rfl (by rw [hg, hW]; kernel_rfl) ⟨trivial, ?_⟩)
    simp only [Act.put, List.setIfInBounds_toArray, List.set_cons_succ, List.set_cons_zero]
    refine held_all1 8 (by kernel_rfl) (op_value 8 6 _ (.pointer (some ⟨g, 0, none⟩)) W rfl rfl rfl (by kernel_rfl) ⟨trivial, ?_⟩)
    simp only [Act.put, List.setIfInBounds_toArray, List.set_cons_succ, List.set_cons_zero]
    have hD0 : RFlash W ⟨g, bA, bB, n, M⟩ { newF n k with b := List.replicate M 0 } := hF.flash h1 h2 h4 HM.out hg hW
    have hT0 := hF.bel hW
    have hl1 := hF.l1
    have hl2 := hF.l2
    have hl3 : w.heap.size ≤ g := by rw [hg]; exact hF.below.size
    clear hW hF hg
    refine wpAnyH_done (by kernel_rfl) ?_ _
    refine NoPanic.normal ?_
    go_wp2
    go_loopw [7] (fun i wr => ∃ I : Nat, I ≤ M ∧ i = .int .i64 (I : Int) ∧ RFlash wr ⟨g, bA, bB, n, M⟩ { newF n k with b := onesL (List.replicate M 0) 0 I } ∧ Below w.heap.size w wr) (fun i _ => M - (intOf i).toNat)
    case atStart => exact ⟨0, Nat.zero_le _, rfl, by rw [onesL_zero]; exact hD0, hT0⟩
    case round =>
      obtain ⟨I, hI, rfl, hDi, hCi⟩ := hrel
      have hhi := hDi.head
      unfold FLay.head at hhi
      have c0 := hhi.cell (j := 0) rfl
      by_cases hlt : I < M
      · have i1 : (I : Int) < (M : Int) := by omega
        have hbl2 : (onesL (List.replicate M (0 : UInt8)) 0 I).length = M := by rw [onesL_len, List.length_replicate]
        have d0 : wr.cell? ⟨bA, I, none⟩ = some (.int .u8 (n8 ((onesL (List.replicate M 0) 0 I).getD I 0))) := hDi.b.cell (bytes_at (by show I < (onesL (List.replicate M 0) 0 I).length; rw [hbl2]; exact hlt))
        have z0 := hDi.b.frozen I
        have hN : (onesL (List.replicate M 0) 0 I).set I 255 = onesL (List.replicate M 0) 0 (I + 1) := by have := onesL_step (List.replicate M 0) 0 I (by simp; exact hlt); rwa [Nat.zero_add] at this
        have hD4 : RFlash (wr.setCell ⟨bA, I, none⟩ (v8 255)) ⟨g, bA, bB, n, M⟩ { newF n k with b := onesL (List.replicate M 0) 0 (I + 1) } := by have := hDi.setByte I 255; rw [← hN]; exact this
        have hC4 : Below w.heap.size w (wr.setCell ⟨bA, I, none⟩ (v8 255)) := hCi.setCell (show w.heap.size ≤ (Addr.block ⟨bA, I, none⟩) from hl1) _
        clear hN
        generalize (onesL (List.replicate M 0) 0 I).getD I 0 = Y at *
        go_wp2
        go_roundw
        case rel => exact ⟨I + 1, hlt, by go_num, hD4, hC4⟩
        case measure => simp [intOf]; omega
      · have i1 : ¬ (I : Int) < (M : Int) := by omega
        obtain rfl : I = M := by omega
        go_wp2
        go_ret2
        refine ⟨⟨g, bA, bB, n, I⟩, rfl, rfl, ?_, hCi, ?_⟩
        · rw [ones_all] at hDi
          have e : newF n k = { newF n k with b := List.replicate I 255 } := by unfold newF; rw [HM.out]
          rw [e]
          exact hDi
        · rintro q (rfl | rfl | rfl)
          · exact hl3
          · exact hl1
          · exact hl2
  · simp only [Act.put, List.setIfInBounds_toArray, List.set_cons_succ, List.set_cons_zero]
    refine held_all1 2 (by kernel_rfl) (op_value 2 24 _ _ U2 rfl rfl rfl (exec_mkB _ rfl M bB U2 rfl hMx (by rw [hB, hU1]; simp) hU2) ⟨trivial, ?_⟩)
    simp only [Act.put, List.setIfInBounds_toArray, List.set_cons_succ, List.set_cons_zero]
    have hF : Two w U2 bB bA M n := by
      subst hA hB hU2 hU1
      exact ⟨Blk.newAt _ _ _ _ (by simp), (Blk.new _ _ _).alloc _, by omega, by omega, Nat.le_refl _, ((Below.refl _ w).drew.alloc (Nat.le_refl _) _).alloc (by simp) _⟩
    clear hA hB hV2 hV1 hU1 hU2
    refine held_all1 6 (by kernel_rfl) (op_value 6 28 _ (.agg #[.slice (some ⟨bB, 0, none⟩) M M, .slice (some ⟨bA, 0, none⟩) n n, .int .i64 (k : Int), .int .i64 (-1), .int .i64 0, .bool false]) U2 rfl rfl rfl (by kernel_rfl) ⟨trivial, ?_⟩)
    simp only [Act.put, List.setIfInBounds_toArray, List.set_cons_succ, List.set_cons_zero]
    obtain ⟨g, hg⟩ : ∃ g, g = U2.heap.size := ⟨_, rfl⟩
    obtain ⟨W, hW⟩ : ∃ W, W = U2.alloc (.cells #[.slice (some ⟨bB, 0, none⟩) M M, .slice (some ⟨bA, 0, none⟩) n n, .int .i64 (k : Int), .int .i64 (-1), .int .i64 0, .bool false] 63) := ⟨_, rfl⟩
    refine held_all1 7 (by kernel_rfl) (op_value 7 29 _ (.pointer (some ⟨g, 0, none⟩)) W rfl rfl rfl (by rw [hg, hW]; kernel_rfl) ⟨trivial, ?_⟩)
    simp only [Act.put, List.setIfInBounds_toArray, List.set_cons_succ, List.set_cons_zero]
    refine held_all1 8 (by kernel_rfl) (op_value 8 6 _ (.pointer (some ⟨g, 0, none⟩)) W rfl rfl rfl (by kernel_rfl) ⟨trivial, ?_⟩)
    simp only [Act.put, List.setIfInBounds_toArray, List.set_cons_succ, List.set_cons_zero]
    have hD0 : RFlash W ⟨g, bB, bA, n, M⟩ { newF n k with b := List.replicate M 0 } := hF.flash h1 h2 h4 HM.out hg hW
    have hT0 := hF.bel hW
    have hl1 := hF.l1
    have hl2 := hF.l2
    have hl3 : w.heap.size ≤ g := by rw [hg]; exact hF.below.size
    clear hW hF hg
    refine wpAnyH_done (by kernel_rfl) ?_ _
    refine NoPanic.normal ?_
    go_wp2
    go_loopw [7] (fun i wr => ∃ I : Nat, I ≤ M ∧ i = .int .i64 (I : Int) ∧ RFlash wr ⟨g, bB, bA, n, M⟩ { newF n k with b := onesL (List.replicate M 0) 0 I } ∧ Below w.heap.size w wr) (fun i _ => M - (intOf i).toNat)
    case atStart => exact ⟨0, Nat.zero_le _, rfl, by rw [onesL_zero]; exact hD0, hT0⟩
    case round =>
      obtain ⟨I, hI, rfl, hDi, hCi⟩ := hrel
      have hhi := hDi.head
      unfold FLay.head at hhi
      have c0 := hhi.cell (j := 0) rfl
      by_cases hlt : I < M
      · have i1 : (I : Int) < (M : Int) := by omega
        have hbl2 : (onesL (List.replicate M (0 : UInt8)) 0 I).length = M := by rw [onesL_len, List.length_replicate]
        have d0 : wr.cell? ⟨bB, I, none⟩ = some (.int .u8 (n8 ((onesL (List.replicate M 0) 0 I).getD I 0))) := hDi.b.cell (bytes_at (by show I < (onesL (List.replicate M 0) 0 I).length; rw [hbl2]; exact hlt))
        have z0 := hDi.b.frozen I
        have hN : (onesL (List.replicate M 0) 0 I).set I 255 = onesL (List.replicate M 0) 0 (I + 1) := by have := onesL_step (List.replicate M 0) 0 I (by simp; exact hlt); rwa [Nat.zero_add] at this
        have hD4 : RFlash (wr.setCell ⟨bB, I, none⟩ (v8 255)) ⟨g, bB, bA, n, M⟩ { newF n k with b := onesL (List.replicate M 0) 0 (I + 1) } := by have := hDi.setByte I 255; rw [← hN]; exact this
        have hC4 : Below w.heap.size w (wr.setCell ⟨bB, I, none⟩ (v8 255)) := hCi.setCell (show w.heap.size ≤ (Addr.block ⟨bB, I, none⟩) from hl1) _
        clear hN
        generalize (onesL (List.replicate M 0) 0 I).getD I 0 = Y at *
        go_wp2
        go_roundw
        case rel => exact ⟨I + 1, hlt, by go_num, hD4, hC4⟩
        case measure => simp [intOf]; omega
      · have i1 : ¬ (I : Int) < (M : Int) := by omega
        obtain rfl : I = M := by omega
        go_wp2
        go_ret2
        refine ⟨⟨g, bB, bA, n, I⟩, rfl, rfl, ?_, hCi, ?_⟩
        · rw [ones_all] at hDi
          have e : newF n k = { newF n k with b := List.replicate I 255 } := by unfold newF; rw [HM.out]
          rw [e]
          exact hDi
        · rintro q (rfl | rfl | rfl)
          · exact hl3
          · exact hl1
          · exact hl2
end Go.Proofs.YtbdhkkdombdnkaaDoor
