/-
  What is proved here: plain facts on bytes that are all one byte. outbox.allAre tells whether bytes are all one byte.
  Conditions: none. the bytes lie in memory.
-/
import Derived.Test.YtgoehohadnkpdaaDoorJBootPure
import Derived.Test.YtgoehohadnkpdaaDoorJSegKit
namespace Go.Proofs.YtgoehohadnkpdaaDoor

theorem all_take_succ (bs : List UInt8) (x : UInt8) (k : Nat) (h : k < bs.length) (ha : (bs.take k).all (· == x) = true) (hx : bs[k].toNat = x.toNat) : (bs.take (k + 1)).all (· == x) = true := by
  rw [List.take_add_one, List.all_append, ha, List.getElem?_eq_getElem h]
  simp only [Option.toList_some, List.all_cons, List.all_nil, Bool.and_true, Bool.true_and, beq_iff_eq]
  exact UInt8.toNat_inj.1 hx
theorem all_not (bs : List UInt8) (x : UInt8) (k : Nat) (h : k < bs.length) (hx : bs[k].toNat ≠ x.toNat) : bs.all (· == x) = false := by
  rw [List.all_eq_false]
  refine ⟨bs[k], List.getElem_mem h, ?_⟩
  simp only [beq_iff_eq]
  intro e
  exact hx (by rw [e])

/-- What is told: a place of another byte, or none. -/
def IdxOk (bs : List UInt8) (x : UInt8) (r : Int) : Prop := decide (0 ≤ r) = !bs.all (· == x)
end Go.Proofs.YtgoehohadnkpdaaDoor
namespace Go.Proofs.YtgoehohadnkpdaaDoor
open Go.RowKit

set_option maxRecDepth 100000 in
theorem are1X (x y q : Nat) (w : World) (hq : w.cell? ⟨q, 0, none⟩ = some (.int .u8 (x : Int))) : Calls Tryd.prog 64 #[.int .u8 (y : Int), .pointer (some ⟨q, 0, none⟩)] w fun e w' => e = .returned (.bool (y != x)) ∧ w' = w := by
  have e1 : ((y : Int) != (x : Int)) = (y != x) := by
    rw [Bool.eq_iff_iff, bne_iff_ne, bne_iff_ne]; omega
  go_enter Tryd.func64, Tryd.ntmps64
  go_wp2
  go_ret
  first
    | exact ⟨rfl, rfl⟩
    | (refine ⟨?_, rfl⟩; rw [e1])
set_option maxRecDepth 100000 in
set_option maxHeartbeats 400000 in
theorem indexX (v : Value) (bs : List UInt8) (x : UInt8) (q : Nat) (w : World) (hm : bs.length ≤ 1000000000) (hseg : Seg w v bs) (hq : w.cell? ⟨q, 0, none⟩ = some (.int .u8 (n8 x))) :
    Calls Tryd.prog 78 #[v, .func (.func 64) #[] #[.pointer (some ⟨q, 0, none⟩)]] w fun e w' => ∃ r : Int, e = .returned (.int .i64 r) ∧ IdxOk bs x r ∧ w' = w := by
  have HC : Hid (∀ y : Nat, Calls Tryd.prog 64 #[.int .u8 (y : Int), .pointer (some ⟨q, 0, none⟩)] w fun e w' => e = .returned (.bool (y != x.toNat)) ∧ w' = w) := fun y => are1X x.toNat y q w hq
  clear hq
  rcases hseg with ⟨rfl, ao, c, rfl, _⟩ | ⟨b, off, c, rfl, hc, hr, hb⟩
  · go_enter Tryd.func78, Tryd.ntmps78
    go_wp2
    go_loop [8] (fun i => i = .int .i64 0) (fun _ => 0)
    case atStart => exact rfl
    case round =>
      obtain rfl := hrel
      go_wp2
      go_ret
      exact ⟨_, rfl, rfl, rfl⟩
  go_enter Tryd.func78, Tryd.ntmps78
  go_wp2
  go_loop [8] (fun i => ∃ k : Nat, k ≤ bs.length ∧ i = .int .i64 k ∧ (bs.take k).all (· == x) = true) (fun i => bs.length - (intOf i).toNat)
  case atStart => exact ⟨0, Nat.zero_le _, rfl, rfl⟩
  case round =>
    obtain ⟨k, hk, rfl, ha⟩ := hrel
    by_cases hlt : k < bs.length
    · have hc := hr k hlt
      have HA : Hid ((bs.take k).all (· == x) = true) := ha
      clear ha
      have HY : Hid (bs[k].toNat = x.toNat → (bs.take (k + 1)).all (· == x) = true) := all_take_succ bs x k hlt HA.out
      have HN : Hid (bs[k].toNat ≠ x.toNat → bs.all (· == x) = false) := all_not bs x k hlt
      unfold n8 at hc
      generalize bs[k].toNat = y at *
      by_cases hy : y = x.toNat
      · have hb : (y != x.toNat) = false := by simp [hy]
        have HY2 : Hid ((bs.take (k + 1)).all (· == x) = true) := HY.out hy
        clear hy HY HN
        go_wp2_with fail
        refine (HC.out _).mono ?_
        rintro e w1 ⟨rfl, rfl⟩
        go_wp2
        go_round
        case rel => exact ⟨k + 1, hlt, by go_num, HY2.out⟩
        case measure => simp [intOf]; omega
      · have hb : (y != x.toNat) = true := by simp [hy]
        have HN2 : Hid (bs.all (· == x) = false) := HN.out hy
        clear hy HY HN
        go_wp2_with fail
        refine (HC.out _).mono ?_
        rintro e w1 ⟨rfl, rfl⟩
        go_wp2
        go_ret
        exact ⟨_, rfl, by unfold IdxOk; rw [HN2.out]; simp, rfl⟩
    · have HA : Hid (bs.all (· == x) = true) := by rw [List.take_of_length_le (by omega)] at ha; exact ha
      clear ha
      go_wp2
      go_ret
      exact ⟨_, rfl, by unfold IdxOk; rw [HA.out]; rfl, rfl⟩

set_option maxRecDepth 100000 in
theorem containsX (v : Value) (bs : List UInt8) (x : UInt8) (q : Nat) (w : World) (hm : bs.length ≤ 1000000000) (hseg : Seg w v bs) (hq : w.cell? ⟨q, 0, none⟩ = some (.int .u8 (n8 x))) :
    Calls Tryd.prog 65 #[v, .func (.func 64) #[] #[.pointer (some ⟨q, 0, none⟩)]] w fun e w' => e = .returned (.bool (!bs.all (· == x))) ∧ w' = w := by
  have HI : Hid (Calls Tryd.prog 78 #[v, .func (.func 64) #[] #[.pointer (some ⟨q, 0, none⟩)]] w fun e w' => ∃ r : Int, e = .returned (.int .i64 r) ∧ IdxOk bs x r ∧ w' = w) := indexX v bs x q w hm hseg hq
  clear hq
  obtain ⟨ao, c, rfl⟩ := hseg.shapeD
  clear hseg
  unfold IdxOk at HI
  generalize bs.all (· == x) = AL at *
  go_enter Tryd.func65, Tryd.ntmps65
  go_wp2_with fail
  refine HI.out.mono ?_
  rintro e w1 ⟨r, rfl, hr, hw⟩
  subst hw
  have HR : Hid (decide (0 ≤ r) = !AL) := hr
  clear hr HI
  go_wp2
  go_ret
  rw [← HR.out]
  exact ⟨rfl, rfl⟩

set_option maxRecDepth 100000 in
theorem areX (v : Value) (bs : List UInt8) (x : UInt8) (w : World) (hm : bs.length ≤ 1000000000) (hseg : Seg w v bs) : Calls Tryd.prog 44 #[v, .int .u8 (n8 x)] w fun e w' => e = .returned (.bool (bs.all (· == x))) ∧ Below w.heap.size w w' := by
  have hB := (Below.refl w.heap.size w).alloc (Nat.le_refl _) (.cells #[.int .u8 (n8 x)] 5)
  have HI : Hid (Calls Tryd.prog 65 #[v, .func (.func 64) #[] #[.pointer (some ⟨w.heap.size, 0, none⟩)]] (w.alloc (.cells #[.int .u8 (n8 x)] 5)) fun e w' => e = .returned (.bool (!bs.all (· == x))) ∧ w' = (w.alloc (.cells #[.int .u8 (n8 x)] 5))) := containsX v bs x w.heap.size _ hm (hseg.alloc _) ((Blk.new w 5 _).cell (j := 0) rfl)
  obtain ⟨ao, c, rfl⟩ := hseg.shapeD
  clear hseg
  generalize bs.all (· == x) = AL at *
  go_enter Tryd.func44, Tryd.ntmps44
  go_wp2_with fail
  refine HI.out.mono ?_
  rintro e w1 ⟨rfl, hw⟩
  subst hw
  clear HI
  cases AL with
  | true =>
    go_wp2
    go_ret
    exact ⟨rfl, hB⟩
  | false =>
    go_wp2
    go_ret
    exact ⟨rfl, hB⟩
end Go.Proofs.YtgoehohadnkpdaaDoor
