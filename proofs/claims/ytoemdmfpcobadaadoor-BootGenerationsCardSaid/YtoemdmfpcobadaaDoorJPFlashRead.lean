/-
  What is proved here: reading off the program's flash.
  Conditions: the flash lies in memory.
-/
import Derived.Test.YtoemdmfpcobadaaDoorJPFlash
import Derived.Test.YtoemdmfpcobadaaDoorJBytesClone
namespace Go.Proofs.YtoemdmfpcobadaaDoor
open Go.RowKit

set_option maxRecDepth 100000 in
set_option maxHeartbeats 1000000 in
theorem read6_any (L : PLay6) (s : FS) (a m : Int) (w : World) (hD : PFlash w L s) :
    Calls Tryd.prog 23 #[.pointer (some ⟨L.g, 0, none⟩), .int .i64 a, .int .i64 m] w fun e w' => ∃ v, e = .returned (.tuple #[v, .int .i64 (readF s a m).2]) ∧ Own w' w.heap.size v (readF s a m).1 ∧ Below w.heap.size w w' := by
  have HS := spans6_any L s a m w hD
  obtain ⟨am, ah, le, hx, -⟩ := hD.head
  have hl := hD.len
  have hcap := hD.ok.cap
  unfold PLay6.head at hx
  have c0 := hx.cell (j := 0) rfl
  have c3 := hx.cell (j := 3) rfl
  obtain ⟨R, hR⟩ : ∃ R, R = readF s a m := ⟨_, rfl⟩
  rw [← hR]
  unfold readF at hR
  cases hd : s.down with
  | true =>
    rw [hd] at c3 hR
    have HR : Hid (R = ([], 7)) := hR
    clear hR hd HS
    go_enter Tryd.func23, Tryd.ntmps23
    go_wp2
    go_ret2
    rw [HR.out]
    exact ⟨_, rfl, ⟨rfl, .inl ⟨rfl, rfl⟩⟩, Below.refl _ _⟩
  | false =>
    rw [hd] at c3 hR
    cases ht : thereB s a m with
    | false =>
      rw [ht] at hR HS
      have HR : Hid (R = ([], 1)) := hR
      have HS' : Hid (Calls Tryd.prog 32 #[.pointer (some ⟨L.g, 0, none⟩), .int .i64 a, .int .i64 m] w fun e w' => e = .returned (.bool false) ∧ w = w') := HS
      clear hR hd HS ht
      go_enter Tryd.func23, Tryd.ntmps23
      go_wp2_with (go_at_call 32; refine HS'.out.mono ?_; rintro e w1 ⟨rfl, rfl⟩)
      go_ret2
      rw [HR.out]
      exact ⟨_, rfl, ⟨rfl, .inl ⟨rfl, rfl⟩⟩, Below.refl _ _⟩
    | true =>
      rw [ht] at hR HS
      have HR0 : R = ((s.b.drop a.toNat).take m.toNat, 0) := hR
      have HS' : Hid (Calls Tryd.prog 32 #[.pointer (some ⟨L.g, 0, none⟩), .int .i64 a, .int .i64 m] w fun e w' => e = .returned (.bool true) ∧ w = w') := HS
      unfold thereB at ht
      simp only [Bool.and_eq_true, decide_eq_true_eq] at ht
      obtain ⟨⟨⟨t1, t2⟩, t3⟩, t4⟩ := ht
      obtain ⟨A, rfl⟩ : ∃ A : Nat, a = (A : Int) := ⟨a.toNat, by omega⟩
      obtain ⟨K, rfl⟩ : ∃ K : Nat, m = (K : Int) := ⟨m.toNat, by omega⟩
      rw [Int.toNat_natCast, Int.toNat_natCast] at HR0
      have HR : Hid (R = ((s.b.drop A).take K, 0)) := HR0
      obtain ⟨M, hM⟩ : ∃ M, M = 1024 * L.n := ⟨_, rfl⟩
      rw [← hM] at c0 hl
      rw [hl] at t4
      have hAK : A + K ≤ M := by omega
      obtain ⟨E, hE⟩ : ∃ E, E = A + K := ⟨_, rfl⟩
      have hwr : IntKind.i64.wrap ((A : Int) + (K : Int)) = (E : Int) := by rw [IntKind.wrap_i64]; omega
      have hsl := slice_midD (some ⟨L.bc, 0, none⟩) M M A E (by omega) (by omega)
      rw [show E - A = K by omega] at hsl
      have hseg : Seg w (.slice (restD (some ⟨L.bc, 0, none⟩) M A) K (M - A)) ((s.b.drop A).take K) := by
        have h0 : Seg w (.slice (some ⟨L.bc, 0, none⟩) M M) s.b := Seg.of_row (fun j hj => by
          have := tab_at6 hD.b hj
          rw [Nat.zero_add, this]
          simp [hj]) hl (Nat.le_refl _) hD.b.lt
        exact ((h0.dropsD A (by omega)).takesD K (by omega)).1
      have HC : Hid (Calls Tryd.prog 44 #[.slice (restD (some ⟨L.bc, 0, none⟩) M A) K (M - A)] w fun e w' => ∃ v, e = .returned v ∧ Own w' w.heap.size v ((s.b.drop A).take K) ∧ Below w.heap.size w w') := clone_anyD _ _ w (by rw [List.length_take]; omega) hseg
      generalize restD (some ⟨L.bc, 0, none⟩) M A = RS at *
      clear hR hd HS HR0 hseg hM t1 t2 t3 t4 hAK hE hl hcap
      go_enter Tryd.func23, Tryd.ntmps23
      go_wp2_with (first | (go_at_call 32; refine HS'.out.mono ?_; rintro e w1 ⟨rfl, rfl⟩) | (go_at_call 44; refine HC.out.mono ?_; rintro e w2 ⟨v, rfl, ho, hb⟩))
      go_ret2
      rw [HR.out]
      exact ⟨_, rfl, ho, hb⟩
end Go.Proofs.YtoemdmfpcobadaaDoor
