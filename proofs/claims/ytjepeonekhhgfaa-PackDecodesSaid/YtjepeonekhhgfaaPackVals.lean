/-
  What is proved here: the statements' own look at values answers some number, and changes nothing.
  Conditions: the values lie in memory.
-/
import Derived.Test.YtjepeonekhhgfaaPackFew
namespace Go.Proofs.Ytjepeonekhhgfaa
open Go.RowKit

def someInt (x : Int) (e : Ending) : Prop := ∃ L : Int, e = .returned (.int .i64 L) ∧ L ≤ x ∧ -100000000000000000 ≤ L
set_option maxRecDepth 100000 in
set_option maxHeartbeats 1000000 in
theorem values_any (n : Nat) : ∀ (v : Value) (l : List Val) (d : Int) (w : World), 0 ≤ d → d ≤ 5000 → Vals w n v l → Calls Try.prog 24 #[v, .int .i64 d] w fun e w' => someInt d e ∧ Below w.heap.size w w' := by
  induction n with
  | zero =>
    rintro v l d w h0 h7 ⟨rfl, rfl⟩
    go_enter Try.func24, Try.ntmps24
    go_wp2
    refine wp_loop_rounds 1 ?_
    rw [rounds_succ]
    go_wp2
    go_ret
    exact ⟨⟨d, rfl, Int.le_refl _, by omega⟩, Below.refl _ _⟩
  | succ n ih =>
    intro v l d w h0 h7 hF
    obtain ⟨ao, c, rfl, hl, hcell⟩ := hF
    unfold maxLen at hl
    obtain ⟨len, hlen⟩ : ∃ len, l.length = len := ⟨_, rfl⟩
    have HLE : Hid (l.length = len) := hlen
    rw [hlen] at hl hcell ⊢
    clear hlen
    go_enter Try.func24, Try.ntmps24
    go_wp2
    go_loopw [1, 5] (fun x i wr => ∃ (I : Nat) (L : Int), I ≤ len ∧ i = .int .i64 (I : Int) ∧ x = .int .i64 L ∧ L ≤ d ∧ -100000000000000000 ≤ L ∧ Below w.heap.size w wr) (fun _ i _ => len - (intOf i).toNat)
    case atStart => exact ⟨0, d, Nat.zero_le _, rfl, rfl, Int.le_refl _, by omega, Below.refl _ _⟩
    case round =>
      obtain ⟨I, L, hI, rfl, rfl, hLd, hL0, hB⟩ := hrel
      by_cases hlt : I < len
      · by_cases hpos : 0 < L
        · obtain ⟨b, off, rfl, hb, hc, hF⟩ := hcell (by omega)
          obtain ⟨x, hx1⟩ : ∃ x, l[I]? = some x := ⟨l[I]'(by have := HLE.out; omega), List.getElem?_eq_getElem (by have := HLE.out; omega)⟩
          obtain ⟨x0, ⟨bv, x1, hbv, hbl⟩, ⟨al, cl, x2, hll, hrec⟩, hxn⟩ := hF I x hx1
          obtain ⟨ab, cb, hbve⟩ : ∃ ab cb, bv = .slice ab x.b.length cb := by
            rcases hbv with ⟨h, ao, c, h2, _⟩ | ⟨b, off, c, h2, _, _, _⟩
            · rw [h]; exact ⟨ao, c, h2⟩
            · exact ⟨_, c, h2⟩
          subst hbve
          unfold maxLen at hbl hll
          have K := Keeps.of_below hB (Nat.le_refl _)
          have d1 := K.cell x1
          have i1 : (I : Int) < (len : Int) := by omega
          have s1 := hB.size
          have hdv : (x.b.length : Int).tdiv 100 = ((x.b.length / 100 : Nat) : Int) := by rw [Int.tdiv_eq_ediv_of_nonneg (by omega)]; omega
          have hdv' : (x.b.length : Int) / 100 = ((x.b.length / 100 : Nat) : Int) := by omega
          have hdb : x.b.length / 100 ≤ 92233720368547759 := by omega
          generalize x.b.length / 100 = BL at *
          obtain ⟨LL, hLL⟩ : ∃ LL, x.l.length = LL := ⟨_, rfl⟩
          have HLL : Hid (x.l.length = LL) := hLL
          rw [hLL] at hll hrec x2
          clear hLL x0 hbv hbl
          have HIH : Hid (∀ (rv : Value) (r : List Val) (e : Int) (W : World), 0 ≤ e → e ≤ 5000 → Vals W n rv r → Calls Try.prog 24 #[rv, .int .i64 e] W fun e' w' => someInt e e' ∧ Below W.heap.size W w') := ih
          obtain ⟨wo, hwo⟩ : ∃ wo, wo = wr := ⟨_, rfl⟩
          go_wp2
          go_loopw [1, 6] (fun x i wq => ∃ (k : Nat) (L' : Int), k ≤ LL ∧ i = .int .i64 (k : Int) ∧ x = .int .i64 L' ∧ L' ≤ d ∧ -100000000000000000 ≤ L' ∧ Below w.heap.size w wq) (fun _ i _ => LL - (intOf i).toNat)
          case atStart => exact ⟨0, L - 1 - (BL : Int), Nat.zero_le _, rfl, rfl, by omega, by omega, hB⟩
          case round =>
            obtain ⟨k, L', hk, rfl, rfl, hLd', hL0', hB'⟩ := hrel
            have K' := Keeps.of_below hB' (Nat.le_refl _)
            have e2 := K'.cell x2
            have s2 := hB'.size
            by_cases hlk : k < LL
            · by_cases hpos' : 0 < L'
              · obtain ⟨bL, offL, rfl, hbL, hcL, hrecs⟩ := hrec (by omega)
                obtain ⟨rec, hrec1⟩ : ∃ rec, x.l[k]? = some rec := ⟨x.l[k]'(by have := HLL.out; omega), List.getElem?_eq_getElem (by have := HLL.out; omega)⟩
                obtain ⟨rv, r1, r2⟩ := hrecs k rec hrec1
                have r1' := K'.cell r1
                have i2 : (k : Int) < (LL : Int) := by omega
                have HC : Hid (∀ W, Keeps w W → Calls Try.prog 24 #[rv, .int .i64 (L' - 1)] W fun e' w' => someInt (L' - 1) e' ∧ Below W.heap.size W w') := fun W hW => HIH.out rv rec (L' - 1) W (by omega) (by omega) (Vals.keeps hW _ _ _ r2)
                go_wp2_with (go_at_call 24; refine (HC.out _ (by exact K')).mono ?_; rintro e w3 ⟨⟨L3, rfl, hL3, hL3'⟩, hb3⟩)
                go_roundw
                case rel => exact ⟨k + 1, L3, hlk, by go_num, rfl, by omega, hL3', hB'.trans (hb3.mono s2)⟩
                case measure => simp [intOf]; omega
              · have i2 : (k : Int) < (LL : Int) := by omega
                go_wp2
                go_roundw
                case rel => exact ⟨I + 1, L', hlt, by go_num, rfl, hLd', hL0', hB'⟩
                case measure => simp [intOf]; omega
            · have i2 : ¬ (k : Int) < (LL : Int) := by omega
              go_wp2
              go_roundw
              case rel => exact ⟨I + 1, L', hlt, by go_num, rfl, hLd', hL0', hB'⟩
              case measure => simp [intOf]; omega
        · have i1 : (I : Int) < (len : Int) := by omega
          go_wp2
          go_ret
          exact ⟨⟨L, rfl, hLd, hL0⟩, hB⟩
      · have i1 : ¬ (I : Int) < (len : Int) := by omega
        go_wp2
        go_ret
        exact ⟨⟨L, rfl, hLd, hL0⟩, hB⟩
end Go.Proofs.Ytjepeonekhhgfaa
