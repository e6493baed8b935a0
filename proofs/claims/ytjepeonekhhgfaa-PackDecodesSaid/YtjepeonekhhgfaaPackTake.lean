/-
  What is proved here: pack's reader takes bytes off the front of what is left.
  Conditions: those that each fact names.
-/
import Derived.Test.YtjepeonekhhgfaaPackEnc
import Derived.Test.YtjepeonekhhgfaaPackDec
namespace Go.Proofs.Ytjepeonekhhgfaa
open Go.RowKit

theorem elem_bytes : Try.prog.elem 29 = 5 := by kernel_rfl
theorem size_byte (w : World) : (sizeOf 5).run Try.prog w = .ok 1 w := by kernel_rfl
theorem add_zero_addr (ao : Option Addr) : ao.map (·.add 0) = ao := by
  cases ao with
  | none => rfl
  | some a => obtain ⟨b, o, s⟩ := a; simp [Addr.add]
theorem slice_to (ao : Option Addr) (len c n : Nat) (h : n ≤ c) (w : World) : (Instr.slice 29 (.slice ao len c) none (some (.int .i64 (n : Int))) none).run Try.prog w = .ok (.slice ao n c) w := by
  rw [run_slice_h w 29 ao len c (by rw [elem_bytes]; exact Try.underlying29) .i64 n (by omega) (by omega), elem_bytes, size_byte]
  simp only [Result.andThen_ok, sliced, Int.toNat_natCast, Nat.zero_mul, add_zero_addr, Nat.sub_zero, ite_self]
/-- Where the rest of a slice begins. -/
def restAt (ao : Option Addr) (c lo : Nat) : Option Addr := if c = lo then ao else ao.map (·.add (lo * 1))
theorem slice_rest (ao : Option Addr) (len c lo : Nat) (h : lo ≤ len) (w : World) : (Instr.slice 29 (.slice ao len c) (some (.int .i64 (lo : Int))) none none).run Try.prog w = .ok (.slice (restAt ao c lo) (len - lo) (c - lo)) w := by
  rw [run_slice_l w 29 ao len c (by rw [elem_bytes]; exact Try.underlying29) .i64 lo (by omega) (by omega), elem_bytes, size_byte]
  simp only [Result.andThen_ok, sliced, Int.toNat_natCast, restAt]
theorem Seg.takes {w : World} {ao : Option Addr} {len c : Nat} {bs : List UInt8} (h : Seg w (.slice ao len c) bs) (n : Nat) (hn : n ≤ len) : Seg w (.slice ao n c) (bs.take n) ∧ n ≤ c := by
  rcases h with ⟨rfl, ao', c', h, h2⟩ | ⟨b, off, c', h, h2, h3, h4⟩
  · cases h
    obtain rfl : n = 0 := by omega
    exact ⟨.inl ⟨rfl, _, _, rfl, h2⟩, Nat.zero_le _⟩
  · cases h
    exact ⟨Seg.of_row (h3.take n) (by simp; omega) (by omega) h4, by omega⟩
theorem Seg.drops {w : World} {ao : Option Addr} {len c : Nat} {bs : List UInt8} (h : Seg w (.slice ao len c) bs) (n : Nat) (hn : n ≤ len) : Seg w (.slice (restAt ao c n) (len - n) (c - n)) (bs.drop n) := by
  rcases h with ⟨rfl, ao', c', h, h2⟩ | ⟨b, off, c', h, h2, h3, h4⟩
  · cases h
    obtain rfl : n = 0 := by omega
    refine .inl ⟨rfl, _, _, rfl, fun e => ?_⟩
    unfold restAt at e
    split at e
    · omega
    · rw [Option.map_eq_none_iff] at e
      have := h2 e
      omega
  · cases h
    by_cases hc : c = n
    · have e : restAt (some ⟨b, off, none⟩) c n = some ⟨b, off, none⟩ := by unfold restAt; rw [if_pos hc]
      rw [e]
      have hb : bs.drop n = [] := List.drop_eq_nil_of_le (by omega)
      rw [hb]
      exact .inl ⟨rfl, _, c - n, by congr 1; omega, fun e => by cases e⟩
    · have e : restAt (some ⟨b, off, none⟩) c n = some ⟨b, off + n, none⟩ := by unfold restAt; rw [if_neg hc, Option.map_some, Addr.add_mid, Nat.mul_one]
      rw [e]
      exact Seg.of_row (h3.drop n) (by simp) (by omega) h4
theorem Seg.shape {w : World} {v : Value} {bs : List UInt8} (h : Seg w v bs) : ∃ ao c, v = .slice ao bs.length c := by
  rcases h with ⟨rfl, ao', c', h, _⟩ | ⟨b, off, c', h, _⟩
  · exact ⟨_, _, h⟩
  · exact ⟨_, _, h⟩

/-- A reader lies here: what is left of it are bytes of the world ahead of it. -/
def Reads (w0 w : World) (g : Nat) (s : List UInt8) : Prop := w0.heap.size ≤ g ∧ Below w0.heap.size w0 w ∧ s.length ≤ maxLen ∧ ∃ lv, Blk w g 53 #[lv] ∧ Seg w0 lv s
theorem Reads.grown {w0 w w' : World} {g : Nat} {s : List UInt8} {row : Option Nat} (h : Reads w0 w g s) (hg : w.grownBy w' row) (h1 : some g ≠ row) (h2 : ∀ k, row = some k → w0.heap.size ≤ k) : Reads w0 w' g s := by
  obtain ⟨a, b, c, lv, d, e⟩ := h
  exact ⟨a, below_grown b hg b.size h2, c, lv, d.grown hg h1, e⟩
theorem grown_set (w : World) (g i : Nat) (v : Value) : w.grownBy (w.setCell ⟨g, i, none⟩ v) (some g) := by
  have b := (Below.refl 0 w).setCell (p := ⟨g, i, none⟩) (Nat.zero_le _) v
  exact ⟨b.os, b.tape, b.output, b.size, fun k _ hk => Below.heap_setCell w _ v k (fun e => hk (by rw [e]))⟩
theorem grown_refl (w : World) (row : Option Nat) : w.grownBy w row := ⟨rfl, rfl, rfl, Nat.le_refl _, fun _ _ _ => rfl⟩
/-- What a take answers: something and what is left, or nothing. -/
def takePost {α : Type} (w0 w : World) (g : Nat) (r : Option (α × List UInt8)) (R : α → Value → World → Prop) (z : Value) (e : Ending) (w' : World) : Prop := (match r with
  | some p => ∃ v, e = .returned (.tuple #[v, .bool true]) ∧ R p.1 v w' ∧ Reads w0 w' g p.2
  | none => ∃ s', e = .returned (.tuple #[z, .bool false]) ∧ Reads w0 w' g s') ∧ w.grownBy w' (some g)

set_option maxRecDepth 100000 in
set_option maxHeartbeats 1000000 in
theorem takeBytes_any (n : Nat) (hn : n ≤ maxLen) (s : List UInt8) (g : Nat) (w0 w : World) (hR : Reads w0 w g s) :
    Calls Try.prog 43 #[.pointer (some ⟨g, 0, none⟩), .int .i64 (n : Int)] w fun e w' => takePost w0 w g (if n ≤ s.length then some (s.take n, s.drop n) else none) (fun b v _ => Seg w0 v b) (.slice none 0 0) e w' := by
  obtain ⟨hg, hB, hm, lv, hb, hs⟩ := hR
  obtain ⟨ao, c, rfl⟩ := hs.shape
  unfold maxLen at hn hm
  have c0 := hb.cell (j := 0) rfl
  have z0 := hb.frozen 0
  obtain ⟨len, hlen⟩ : ∃ len, len = s.length := ⟨_, rfl⟩
  rw [← hlen] at hs hm hb c0 ⊢
  by_cases h : n ≤ len
  · have i1 : ¬ (len : Int) < (n : Int) := by omega
    obtain ⟨ht, hnc⟩ := hs.takes n h
    have hd := hs.drops n h
    have l1 := slice_to ao len c n hnc
    have l2 := slice_rest ao len c n h
    rw [if_pos h]
    generalize restAt ao c n = ra at *
    have HX : Hid ((s.take n).length = n) := by show _ = _; rw [List.length_take]; omega
    have HY : Hid (len = s.length) := hlen
    clear hlen
    go_enter Try.func43, Try.ntmps43
    go_wp2
    go_ret2
    exact ⟨⟨_, rfl, ht, hg, hB.setCell hg _, by show (s.drop n).length ≤ maxLen; rw [List.length_drop]; unfold maxLen; have := HY.out; omega, _, hb.set 0 _, hd⟩, grown_set _ _ _ _⟩
  · have i1 : (len : Int) < (n : Int) := by omega
    rw [if_neg h]
    go_enter Try.func43, Try.ntmps43
    go_wp2
    go_ret2
    exact ⟨⟨s, rfl, hg, hB, by unfold maxLen; omega, _, hb, hs⟩, grown_refl _ _⟩
end Go.Proofs.Ytjepeonekhhgfaa
