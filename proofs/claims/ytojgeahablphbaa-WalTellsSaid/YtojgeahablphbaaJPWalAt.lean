/-
  What is proved here: the program's log and its disk, whose blocks all lie from a bound on: what they do keeps what lies below it.
  Conditions: those that each fact names.
-/
import Derived.Test.YtojgeahablphbaaJPWalCheck
namespace Go.Proofs.Ytojgeahablphbaa
open Go.RowKit

def DiskAt (B : Nat) (w : World) (L : PLay) (s : DS) : Prop := ∃ C, OD w L C s ∧ (∀ q, C q → B ≤ q) ∧ B ≤ w.heap.size
def LogAt (B : Nat) (w : World) (G : Nat) (L : PLay) (s : DS) (l : LS) : Prop := ∃ C, PB w G L C s l ∧ (∀ q, C q → B ≤ q) ∧ B ≤ w.heap.size
theorem blift {B C : Nat} {w w1 w2 : World} (h1 : Below B w w1) (h2 : Below C w1 w2) (h : B ≤ C) : Below B w w2 := h1.trans (h2.mono h)
theorem fr_ge {C : Nat → Prop} {B : Nat} {w w' : World} (h : ∀ q, C q → B ≤ q) (hB : B ≤ w.heap.size) (q : Nat) (hq : Fr C w w' q) : B ≤ q := by
  rcases hq with e | e
  · exact h q e
  · exact Nat.le_trans hB e.1
theorem LogAt.disk {B : Nat} {w : World} {G : Nat} {L : PLay} {s : DS} {l : LS} (h : LogAt B w G L s l) : DiskAt B w L s := by
  obtain ⟨C, h1, h2, h3⟩ := h
  obtain ⟨CD, k1, k2⟩ := h1.disk
  exact ⟨CD, k1, fun q hq => h2 q (k2 q hq), h3⟩
theorem LogAt.after {B : Nat} {w w' : World} {G : Nat} {L : PLay} {s : DS} {l : LS} (h : LogAt B w G L s l) (hb : Below w.heap.size w w') : LogAt B w' G L s l := by
  obtain ⟨C, h1, h2, h3⟩ := h
  exact ⟨C, h1.after hb, h2, Nat.le_trans h3 hb.size⟩
theorem LogAt.le {B : Nat} {w : World} {G : Nat} {L : PLay} {s : DS} {l : LS} (h : LogAt B w G L s l) : B ≤ w.heap.size := h.choose_spec.2.2
theorem LogAt.okS {B : Nat} {w : World} {G : Nat} {L : PLay} {s : DS} {l : LS} (h : LogAt B w G L s l) : s.ok L.n ∧ L.n ≤ 4096 := by
  obtain ⟨C, h1, -⟩ := h.disk
  exact ⟨h1.d.ok, h1.d.lay.max⟩
theorem DiskAt.after {B : Nat} {w w' : World} {L : PLay} {s : DS} (h : DiskAt B w L s) (hb : Below w.heap.size w w') : DiskAt B w' L s := by
  obtain ⟨C, h1, h2, h3⟩ := h
  exact ⟨C, h1.after hb, h2, Nat.le_trans h3 hb.size⟩
theorem at_new (B n : Nat) (w : World) (h1 : 1 ≤ n) (h2 : n ≤ 4096) (hB : B ≤ w.heap.size) :
    Calls Try.prog 5 #[.int .i64 (n : Int)] w fun e w' => ∃ L : PLay, e = .returned (.tuple #[.pointer (some ⟨L.g, 0, none⟩), .int .i64 0]) ∧ DiskAt B w' L (newS n) ∧ Below w.heap.size w w' ∧ L.n = n :=
  (od_new n w h1 h2).mono fun _ _ ⟨L, e, hD, hb, hT, hn⟩ => ⟨L, e, ⟨L.T, hD, fun q hq => Nat.le_trans hB (hT q hq), Nat.le_trans hB hb.size⟩, hb, hn⟩
theorem at_open {B : Nat} {w : World} {L : PLay} {s : DS} (h : DiskAt B w L s) (he : openE s = 0) :
    Calls Try.prog 10 #[.pointer (some ⟨L.g, 0, none⟩)] w fun e w' => ∃ G sv rv vs, e = .returned (.tuple #[.pointer (some ⟨G, 0, none⟩), sv, rv, .int .i64 0]) ∧ LogAt B w' G L s (openL s) ∧ Own w' w.heap.size sv (foundS s).1 ∧ Gat w' w.heap.size rv vs (foundS s).2 ∧ Below w.heap.size w w' := by
  obtain ⟨C, h1, h2, h3⟩ := h
  refine (open_any L C s w h1 he).mono ?_
  rintro e w' ⟨G, sv, rv, vs, rfl, hP, hG, hO, hA, hb⟩
  refine ⟨G, sv, rv, vs, rfl, ⟨_, hP, fun q hq => ?_, Nat.le_trans h3 hb.size⟩, hO, hA, hb⟩
  rcases hq with e | rfl
  · exact h2 q e
  · exact Nat.le_trans h3 hG
theorem at_check {B : Nat} {w : World} {G : Nat} {L : PLay} {s : DS} {l : LS} (h : LogAt B w G L s l) (x : Value) (st : List UInt8) (hS : Seg w x st) (hm : st.length ≤ 1000000) :
    Calls Try.prog 13 #[.pointer (some ⟨G, 0, none⟩), x] w fun e w' => e = .returned (.int .i64 (checkW s l st).1) ∧ LogAt B w' G L (checkW s l st).2.1 (checkW s l st).2.2 ∧ Below B w w' := by
  obtain ⟨C, h1, h2, h3⟩ := h
  refine (pb_check h1 x st hS hm).mono ?_
  rintro e w' ⟨rfl, hP, hc⟩
  exact ⟨rfl, ⟨_, hP, fr_ge h2 h3, Nat.le_trans h3 hc.size⟩, hc.below h2 h3⟩


theorem at_room {B : Nat} {w : World} {G : Nat} {L : PLay} {s : DS} {l : LS} (h : LogAt B w G L s l) :
    Calls Try.prog 14 #[.pointer (some ⟨G, 0, none⟩)] w fun e w' => e = .returned (.int .i64 (roomW s l)) ∧ Below w.heap.size w w' := by
  obtain ⟨C, h1, -⟩ := h
  exact pb_room h1


theorem one_seg (w : World) (b : UInt8) : Seg (w.alloc (.cells #[v8 b] 5)) (.slice (some ⟨w.heap.size, 0, none⟩) 1 1) [b] :=
  Seg.of_row (Blk.row (Blk.new w 5 _)) rfl (Nat.le_refl _) (by simp)

set_option maxRecDepth 100000 in
set_option maxHeartbeats 4000000 in
theorem awake7_any (w : World) : Calls Try.prog 4 #[] w fun e w' => e = .returned (.bool true) ∧ Below w.heap.size w w' := by
  have h256 : 256 ≤ sizeS (newS 10) := by rw [newS_size]; decide
  obtain ⟨ho, hl⟩ := newS_open 10 h256
  obtain ⟨t, ht, hst, -, hsz⟩ := check_calm (st := [7]) (l := ⟨0, 0, [], 0, false, false⟩) (newS_calm 10) (newS_ok 10) (by decide) h256 rfl (by rw [newS_there]) (by decide) (by decide) (by rw [newS_size, stateB_len]; decide)
  have HR : Hid (roomW t ⟨0 + 1, 0 + 1, stateB [7], (stateB [7]).length, true, false⟩ = 506) := by
    show _ = _
    rw [room_stand hst, hsz, newS_size]
    show _ - ((stateB [7]).length : Int) = 506
    rw [stateB_len]
    rfl
  go_enter Try.func4, Try.ntmps4
  go_wp2_with fail
  refine (at_new w.heap.size 10 w (by decide) (by decide) (Nat.le_refl _)).mono ?_
  rintro e w1 ⟨L, rfl, hD, hb1, hLn⟩
  go_wp2_with fail
  refine (at_open hD ho).mono ?_
  rintro e w2 ⟨G, sv, rv, vs, rfl, hP, _, _, hb2⟩
  rw [hl] at hP
  clear ho hl
  go_wp2_with fail
  refine (at_check (hP.after ((Below.refl _ w2).alloc (Nat.le_refl _) _)) _ [7] (one_seg w2 7) (by decide)).mono ?_
  rintro e w3 ⟨rfl, hP3, hb3⟩
  rw [ht] at hP3 ⊢
  clear ht hst
  go_wp2_with fail
  refine (at_room hP3).mono ?_
  rintro e w4 ⟨rfl, hb4⟩
  rw [HR.out]
  go_wp2_with fail
  go_ret
  exact ⟨rfl, blift ((blift (blift hb1 hb2 hb1.size) ((Below.refl _ w2).alloc (Nat.le_refl _) _) (Nat.le_trans hb1.size hb2.size)).trans hb3) hb4 hP3.le⟩
end Go.Proofs.Ytojgeahablphbaa
