/-
  What is proved here: of all bytes, the statement ShaSums answers true: sha.Sum is the document's hash.
  Conditions: the variables firstWords and roundWords hold the words of SHA-256.
-/
import Derived.Test.YthipmajgmneopaaDoorShaAwake
import Derived.Test.YthipmajgmneopaaDoorRefSum
import Derived.Stop.BytesEq
namespace Go.Proofs.YthipmajgmneopaaDoor
open Go.RowKit

set_option maxRecDepth 100000 in
set_option maxHeartbeats 1000000 in
theorem shaSums_any (x : Value) (bs : List UInt8) (ao : Option Addr) (len c : Nat) (w : World) (hx : x = .slice ao len c) (hl : bs.length = len) (hm : len ≤ maxLen) (hseg : Seg w x bs) (hgf : 0 < w.heap.size) (hf : Tab w 0 (St.start.list.map v32)) (hgk : 1 < w.heap.size) (hk : Tab w 1 (kWords.map v32)) :
    Calls Tryd.prog 3 #[x] w fun e w' => e = .returned (.bool true) ∧ Below w.heap.size w w' := by
  subst hx
  unfold maxLen at hm
  by_cases hbig : 100000 < len
  · go_enter Tryd.func3, Tryd.ntmps3
    go_wp2_with (go_at_call 9; refine (awake_any _ hgf hf hgk hk).mono ?_; rintro e w1 ⟨rfl, hb1⟩)
    go_ret
    exact ⟨rfl, hb1⟩
  · go_enter Tryd.func3, Tryd.ntmps3
    go_wp2_with fail
    refine (awake_any _ hgf hf hgk hk).mono ?_
    rintro e w1 ⟨rfl, hb1⟩
    have s1 := hb1.size
    go_wp2_with fail
    refine (sum_any _ bs _ (hseg.below hb1 (Nat.le_refl _)) (by omega) (by omega) (hf.below hb1 hgf) (by omega) (hk.below hb1 hgk)).mono ?_
    rintro e w2 ⟨rfl, hb2⟩
    have hb2' : Below w.heap.size w w2 := hb1.trans (hb2.mono s1)
    go_wp2_with fail
    refine (refSum_any _ bs _ (hseg.below hb2' (Nat.le_refl _)) (by omega)).mono ?_
    rintro e w3 ⟨rfl, hb3⟩
    have hb3' : Below w.heap.size w w3 := hb2'.trans (hb3.mono hb2'.size)
    have heq : ∀ w : World, (Op.equalIn 10000 24 (.agg ((shaOf bs).map v8).toArray) (.agg ((shaOf bs).map v8).toArray)).run Tryd.prog w = .ok true w := fun w => by
      have := run_equalIn_bytes (P := Tryd.prog) w 9998 24 5 32 Tryd.underlying24 Tryd.underlying5 (fun w => by kernel_rfl) (shaOf bs) (shaOf bs) (wbytes_len _) (wbytes_len _)
      rw [beq_self_eq_true] at this
      exact this
    generalize ((shaOf bs).map v8).toArray = SM at *
    go_wp2
    go_ret
    exact ⟨rfl, hb3'⟩
end Go.Proofs.YthipmajgmneopaaDoor
