/-
  What is proved here: outbox.decode tells of bytes that are no Seal that they are none's; SortStableFunc leaves an empty slice as it is.
  Conditions: the bytes lie in memory; the variable fourBits holds the sixteen words.
-/
import Derived.Test.YtgoehohadnkpdaaDoorJOutSmall
import Derived.Test.YtgoehohadnkpdaaDoorJCrcSeal
namespace Go.Proofs.YtgoehohadnkpdaaDoor
open Go.RowKit

set_option maxRecDepth 100000 in
set_option maxHeartbeats 2000000 in
theorem decodeX0 (v : Value) (c : List UInt8) (w : World) (hc : c.length = 31) (hop : openOf c = none) (hseg : Seg w v c) (hgf : 1 < w.heap.size) (hf : Tab w 1 (fours.map v32)) :
    Calls Tryd.prog 39 #[v] w fun e w' => e = .returned (.tuple #[.agg #[.int .i64 0, .int .i64 0, .int .i64 0, .int .i64 0, .int .i64 0, .int .i64 0, .int .i64 0], .bool false]) ∧ Below w.heap.size w w' := by
  have hb0 := (Below.refl w.heap.size w).alloc (Nat.le_refl _) (.cells #[.int .i64 0, .int .i64 0, .int .i64 0, .int .i64 0, .int .i64 0, .int .i64 0, .int .i64 0] 63)
  have hk0 := Blk.new w 63 #[.int .i64 0, .int .i64 0, .int .i64 0, .int .i64 0, .int .i64 0, .int .i64 0, .int .i64 0]
  have HO : Hid (Calls Tryd.prog 58 #[v] (w.alloc (.cells #[.int .i64 0, .int .i64 0, .int .i64 0, .int .i64 0, .int .i64 0, .int .i64 0, .int .i64 0] 63)) fun e w' => ∃ v, e = .returned (.tuple #[v, .bool (openOf c).isSome]) ∧ Own w' (w.alloc (.cells #[.int .i64 0, .int .i64 0, .int .i64 0, .int .i64 0, .int .i64 0, .int .i64 0, .int .i64 0] 63)).heap.size v ((openOf c).getD []) ∧ Below (w.alloc (.cells #[.int .i64 0, .int .i64 0, .int .i64 0, .int .i64 0, .int .i64 0, .int .i64 0, .int .i64 0] 63)).heap.size (w.alloc (.cells #[.int .i64 0, .int .i64 0, .int .i64 0, .int .i64 0, .int .i64 0, .int .i64 0, .int .i64 0] 63)) w') := open_any v c _ (by omega) (hseg.alloc _) (Nat.lt_of_lt_of_le hgf hb0.size) (hf.below hb0 hgf)
  obtain ⟨ao, cc, rfl⟩ := hseg.shapeD
  clear hseg
  rw [hop] at HO
  clear hop hc
  go_enter Tryd.func39, Tryd.ntmps39
  go_wp2_with fail
  refine HO.out.mono ?_
  rintro e w1 ⟨v1, rfl, ho1, hb1⟩
  clear HO
  rw [World.size_alloc] at ho1 hb1
  change Own w1 _ v1 [] at ho1
  have hB1 : Below w.heap.size w w1 := hb0.trans (hb1.mono (by omega))
  have hk1 : Blk w1 w.heap.size 63 #[.int .i64 0, .int .i64 0, .int .i64 0, .int .i64 0, .int .i64 0, .int .i64 0, .int .i64 0] := hk0.below hb1 (by omega)
  clear hb0 hk0
  obtain ⟨at_, ct, hv1⟩ := ho1.seg.shapeD
  subst hv1
  clear ho1
  go_wp2_with (refine store_blk rfl 63 _ _ rfl rfl w.heap.size #[.int .i64 0, .int .i64 0, .int .i64 0, .int .i64 0, .int .i64 0, .int .i64 0, .int .i64 0] rfl rfl 63 _ hk1 info_ent12 rfl (by simp [Value.oneCell']) ?_; intro w3 hb3 hg3 hs3)
  (try simp only [Exit.inBlock, Exit.then])
  refine bodyPost_ret (results_pairK rfl _ _ w.heap.size 63 #[.int .i64 0, .int .i64 0, .int .i64 0, .int .i64 0, .int .i64 0, .int .i64 0, .int .i64 0] (0, 0) _ _ rfl rfl hb3 Tryd.underlying63 rfl info_ent12) rfl ?_
  exact ⟨rfl, below_grown hB1 hg3 hB1.size (fun q hq => by have h2 : w.heap.size = q := Option.some.inj hq; omega)⟩

set_option maxRecDepth 100000 in
theorem insX0 (ao : Option Addr) (c : Nat) (fv : Value) (w : World) : Calls Tryd.prog 76 #[.slice ao 0 c, .int .i64 0, .int .i64 0, fv] w fun e w' => e = .returned (.tuple #[]) ∧ w' = w := by
  go_enter Tryd.func76, Tryd.ntmps76
  go_wp2
  go_loop [8] (fun i => i = .int .i64 1) (fun _ => 0)
  case atStart => exact rfl
  case round =>
    obtain rfl := hrel
    go_wp2
    go_end0
    exact ⟨rfl, rfl⟩
set_option maxRecDepth 100000 in
set_option maxHeartbeats 1000000 in
theorem stableX0 (ao : Option Addr) (c : Nat) (fv : Value) (w : World) : Calls Tryd.prog 61 #[.slice ao 0 c, .int .i64 0, fv] w fun e w' => e = .returned (.tuple #[]) ∧ w' = w := by
  have HI : Hid (Calls Tryd.prog 76 #[.slice ao 0 c, .int .i64 0, .int .i64 0, fv] w fun e w' => e = .returned (.tuple #[]) ∧ w' = w) := insX0 ao c fv w
  go_enter Tryd.func61, Tryd.ntmps61
  go_wp2
  go_loop [7, 8] (fun i j => i = .int .i64 0 ∧ j = .int .i64 20) (fun _ _ => 0)
  case atStart => exact ⟨rfl, rfl⟩
  case round =>
    obtain ⟨rfl, rfl⟩ := hrel
    go_wp2_with fail
    refine HI.out.mono ?_
    rintro e w1 ⟨rfl, hw1⟩
    subst hw1
    clear HI
    go_wp2
    go_loop [6, 7, 8] (fun i j k => i = .int .i64 20 ∧ j = .int .i64 0 ∧ k = .int .i64 20) (fun _ _ _ => 0)
    case atStart => exact ⟨rfl, rfl, rfl⟩
    case round =>
      obtain ⟨rfl, rfl, rfl⟩ := hrel
      go_wp2
      go_end0
      exact ⟨rfl, rfl⟩
set_option maxRecDepth 100000 in
theorem sortX0 (ao : Option Addr) (c : Nat) (fv : Value) (w : World) : Calls Tryd.prog 40 #[.slice ao 0 c, fv] w fun e w' => e = .returned (.tuple #[]) ∧ w' = w := by
  have HI : Hid (Calls Tryd.prog 61 #[.slice ao 0 c, .int .i64 0, fv] w fun e w' => e = .returned (.tuple #[]) ∧ w' = w) := stableX0 ao c fv w
  go_enter Tryd.func40, Tryd.ntmps40
  go_wp2_with fail
  refine HI.out.mono ?_
  rintro e w1 ⟨rfl, hw1⟩
  subst hw1
  go_wp2
  go_end0
  exact ⟨rfl, rfl⟩
end Go.Proofs.YtgoehohadnkpdaaDoor
