/-
  What is proved here: the statements' own looks at fields and values (fields, values, few) answer some truth value, or number, and change nothing.
  Conditions: fields and values lie in memory.
-/
import Derived.Test.YtjepeonekhhgfaaPackWorld
namespace Go.Proofs.Ytjepeonekhhgfaa
open Go.RowKit

def someBool (e : Ending) : Prop := ∃ B, e = .returned (.bool B)
theorem someBool_mk (B : Bool) : someBool (.returned (.bool B)) := ⟨B, rfl⟩

set_option maxRecDepth 100000 in
set_option maxHeartbeats 1000000 in
theorem fields_any (n : Nat) : ∀ (v : Value) (l : List Fld) (d : Int) (w : World), 0 ≤ d → d ≤ 7 → Flds w n v l → Calls Try.prog 10 #[v, .int .i64 d] w fun e w' => someBool e ∧ Below w.heap.size w w' := by
  induction n with
  | zero =>
    rintro v l d w h0 h7 ⟨rfl, rfl⟩
    by_cases hd : 6 < d
    · go_enter Try.func10, Try.ntmps10
      go_wp2
      go_ret
      exact ⟨someBool_mk _, Below.refl _ _⟩
    · go_enter Try.func10, Try.ntmps10
      go_wp2
      refine wp_loop_rounds 1 ?_
      rw [rounds_succ]
      go_wp2
      go_ret
      exact ⟨someBool_mk _, Below.refl _ _⟩
  | succ n ih =>
    intro v l d w h0 h7 hF
    obtain ⟨ao, c, rfl, hl, hcell⟩ := hF
    unfold maxLen at hl
    obtain ⟨len, hlen⟩ : ∃ len, l.length = len := ⟨_, rfl⟩
    have HLE : Hid (l.length = len) := hlen
    rw [hlen] at hl hcell ⊢
    clear hlen
    by_cases hbig : 17 < len
    · go_enter Try.func10, Try.ntmps10
      go_wp2
      go_ret
      exact ⟨someBool_mk _, Below.refl _ _⟩
    by_cases hd : 6 < d
    · go_enter Try.func10, Try.ntmps10
      go_wp2
      go_ret
      exact ⟨someBool_mk _, Below.refl _ _⟩
    go_enter Try.func10, Try.ntmps10
    go_wp2
    go_loopw [5, 6] (fun m i wr => ∃ I k : Nat, I ≤ len ∧ i = .int .i64 (I : Int) ∧ m = .int .i64 (k : Int) ∧ k ≤ I ∧ Below w.heap.size w wr) (fun _ i _ => len - (intOf i).toNat)
    case atStart => exact ⟨0, 0, Nat.zero_le _, rfl, rfl, Nat.le_refl _, Below.refl _ _⟩
    case round =>
      obtain ⟨I, k, hI, rfl, rfl, hk, hB⟩ := hrel
      by_cases hlt : I < len
      · obtain ⟨b, off, rfl, hb, hc, hF⟩ := hcell (by omega)
        obtain ⟨f, hf1⟩ : ∃ f, l[I]? = some f := ⟨l[I]'(by have := HLE.out; omega), List.getElem?_eq_getElem (by have := HLE.out; omega)⟩
        have K := Keeps.of_below hB (Nat.le_refl _)
        obtain ⟨f0, f1, f2, ⟨o, f3, hof⟩, _, _⟩ := hF I f hf1
        have c3 := K.cell f3
        have HIH : Hid (∀ W, Keeps w W → Calls Try.prog 10 #[o, .int .i64 (d + 1)] W fun e w' => someBool e ∧ Below W.heap.size W w') := fun W hW => ih o f.of (d + 1) W (by omega) (by omega) (Flds.keeps hW _ _ _ hof)
        obtain ⟨ao2, cc2, ho2, hol2, _⟩ := hof.form
        unfold maxLen at hol2
        subst ho2
        clear f0 f1 f2 f3 hof
        have i1 : (I : Int) < (len : Int) := by omega
        have s1 := hB.size
        go_wp2_with (go_at_call 10; refine (HIH.out _ (by exact K)).mono ?_; rintro e w2 ⟨⟨B, rfl⟩, hb2⟩)
        all_goals first
          | (go_ret; exact ⟨someBool_mk _, hB⟩)
          | (go_ret; exact ⟨someBool_mk _, hB.trans (hb2.mono s1)⟩)
          | (go_roundw
             case rel => first | exact ⟨I + 1, k + 1, hlt, by go_num, by go_num, by omega, hB.trans (hb2.mono s1)⟩ | exact ⟨I + 1, k, hlt, by go_num, by go_num, by omega, hB.trans (hb2.mono s1)⟩
             case measure => simp [intOf]; omega)
      · have i1 : ¬ (I : Int) < (len : Int) := by omega
        go_wp2
        go_ret
        exact ⟨someBool_mk _, hB⟩
end Go.Proofs.Ytjepeonekhhgfaa
