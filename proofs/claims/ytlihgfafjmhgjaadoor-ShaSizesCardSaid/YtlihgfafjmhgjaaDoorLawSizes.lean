/-
  What is proved here: of all bytes, the statement ShaSizes answers true: a saved state has 40 bytes and those that are no whole block yet, and with a byte more or less there is no hash of it.
  Conditions: the variables firstWords and roundWords hold the words of SHA-256.
-/
import Derived.Test.YtlihgfafjmhgjaaDoorShaAwake
import Derived.Test.YtlihgfafjmhgjaaDoorShaBack
import Derived.Test.YtlihgfafjmhgjaaDoorRefSum
namespace Go.Proofs.YtlihgfafjmhgjaaDoor
open Go.RowKit

theorem slice_to' (ao : Option Addr) (len c n : Nat) (h : n ≤ c) (w : World) : (Instr.slice 26 (.slice ao len c) none (some (.int .i64 (n : Int))) none).run Tryd.prog w = .ok (.slice ao n c) w := by
  have he : Tryd.prog.elem 26 = 5 := by kernel_rfl
  have hs : (sizeOf 5).run Tryd.prog w = .ok 1 w := by kernel_rfl
  have ha : ao.map (·.add 0) = ao := by
    cases ao with
    | none => rfl
    | some a => obtain ⟨b, o, s⟩ := a; simp [Addr.add]
  rw [run_slice_h w 26 ao len c (by rw [he]; exact Tryd.underlying26) .i64 n (by omega) (by omega), he, hs]
  simp only [Result.andThen_ok, sliced, Int.toNat_natCast, Nat.zero_mul, ha, Nat.sub_zero, ite_self]

set_option maxRecDepth 100000 in
set_option maxHeartbeats 1000000 in
theorem shaSizes_any (x : Value) (bs : List UInt8) (ao : Option Addr) (len c : Nat) (w : World) (hx : x = .slice ao len c) (hl : bs.length = len) (hm : len ≤ maxLen) (hseg : Seg w x bs) (hgf : 0 < w.heap.size) (hf : Tab w 0 (St.start.list.map v32)) (hgk : 1 < w.heap.size) (hk : Tab w 1 (kWords.map v32)) :
    Calls Tryd.prog 6 #[x] w fun e w' => e = .returned (.bool true) ∧ Below w.heap.size w w' := by
  subst hx
  unfold maxLen at hm
  by_cases hbig : 5000 < len
  · go_enter Tryd.func6, Tryd.ntmps6
    go_wp2_with (first | (go_at_call 7; refine (awake_any _ hgf hf hgk hk).mono ?_; rintro e w1 ⟨rfl, hb1⟩) | (go_at_call 8; refine (new_hash _ (by exact hf.below hb1 hgf)).mono ?_; rintro e w2 ⟨rfl, hH2, hb2⟩))
    go_ret
    exact ⟨rfl, hb1.trans (hb2.mono hb1.size)⟩
  · go_enter Tryd.func6, Tryd.ntmps6
    go_wp2_with (first | (go_at_call 7; refine (awake_any _ hgf hf hgk hk).mono ?_; rintro e w1 ⟨rfl, hb1⟩) | (go_at_call 8; refine (new_hash _ (by exact hf.below hb1 hgf)).mono ?_; rintro e w2 ⟨rfl, hH2, hb2⟩) | fail)
    have s1 := hb1.size
    have s2 := hb2.size
    have hB2 : Below w.heap.size w w2 := hb1.trans (hb2.mono s1)
    have hgh := hH2.lt
    clear hb1 hb2
    generalize w1.heap.size = gh at *
    have hbl : bs.length ≤ 5000 := by omega
    refine (write_any gh St.start [] 0 _ bs w2 hH2 rfl (hseg.below hB2 (Nat.le_refl _)) ?_ (by omega) (by omega) (by exact hk.below hB2 hgk)).mono ?_
    · intro b' o' c' n' h hn
      rcases hseg with ⟨h0, _⟩ | ⟨b, off, c, h1, _, _, h4⟩
      · subst h0; simp at hl; cases h; omega
      · rw [h] at h1; cases h1; omega
    rintro e w3 ⟨rfl, hH3, hg3⟩
    rw [List.nil_append, Nat.zero_add] at hH3
    have hB3 := below_grown hB2 hg3 hB2.size (fun q hq => by cases hq; omega)
    have s3 := hB3.size
    clear hg3 hB2 hH2
    go_wp2_with fail
    refine (hsave_any gh St.start bs bs.length w3 hH3 rfl (by omega)).mono ?_
    rintro e w4 ⟨v4, rfl, ho4, hb4⟩
    have hS4 : Below w.heap.size w w4 := hB3.trans (hb4.mono s3)
    have hH4 := hH3.below hb4 hH3.lt
    have s4 := hS4.size
    have hg4 := hb4.size
    have hsl := save_len St.start bs bs.length
    have hmore : Hid (¬ saveOk (saveOf St.start bs bs.length ++ [0])) := save_more St.start bs bs.length 0 (by omega) rfl
    have hless : Hid (¬ saveOk ((saveOf St.start bs bs.length).take ((saveOf St.start bs bs.length).length - 1))) := save_less St.start bs bs.length (by omega) rfl
    generalize saveOf St.start bs bs.length = SV at *
    obtain ⟨g4, c4, hv4, _, hg4l, hc4, hr4⟩ := ho4.form (by omega)
    have sg4 := ho4.seg
    subst hv4
    have HSL : Hid (SV.length = 40 + bs.length % 64) := hsl
    obtain ⟨N, hN⟩ : ∃ N, SV.length = N := ⟨_, rfl⟩
    have hNb : 40 ≤ N ∧ N ≤ 200 := by omega
    have HN : Hid (N = 40 + len % 64) := by show _ = _; omega
    rw [hN] at sg4 hc4 hsl ⊢
    rw [hN] at hless
    have sgl : Hid (∀ W, Below w4.heap.size w4 W → Seg W (.slice (some ⟨g4, 0, none⟩) (N - 1) c4) (SV.take (N - 1))) := fun W hW => Seg.of_row ((hr4.below hW hg4l).take (N - 1)) (by simp; omega) (by omega) (Nat.lt_of_lt_of_le hg4l hW.size)
    have hmx : ∀ W, (Instr.slice 26 (.slice (some ⟨g4, 0, none⟩) N c4) none (some (.int .i64 ((N : Int) - 1))) none).run Tryd.prog W = .ok (.slice (some ⟨g4, 0, none⟩) (N - 1) c4) W := fun W => by
      have := slice_to' (some ⟨g4, 0, none⟩) N c4 (N - 1) (by omega) W
      rw [show (((N - 1 : Nat) : Int)) = (N : Int) - 1 by omega] at this
      exact this
    clear ho4 hB3 hH3 hb4 hsl
    go_wp2_with (first | (at_builtin; refine app_own _ rfl (.tmp 34) (.tmp 35) rfl w4.heap.size _ [] rfl (by exact own_empty _ _ _ rfl (Nat.le_refl _)) _ SV rfl (by exact sg4.alloc _) (by simp; omega) (by simp) ?_; intro v5 w5 ho5 hg5 hv5; rw [List.nil_append] at ho5; have hB5 := below_grown ((Below.refl w4.heap.size w4).alloc (Nat.le_refl _) _) hg5 (by simp) (fun q hq => by have h2 : w4.heap.size = q := Option.some.inj hq; omega); have s5 := hB5.size; clear hg5 hv5) | (at_builtin; refine app_own _ rfl (.tmp 36) (.tmp 37) rfl w4.heap.size _ SV rfl (by exact ho5.alloc _) _ [0] rfl (by exact Seg.of_row (row_one _ 0 _) rfl (by simp) (by simp)) (by simp; omega) (by simp; omega) ?_; intro v6 w6 ho6 hg6 hv6; have hB6 := below_grown (hB5.alloc s5 _) hg6 (by simp; omega) (fun q hq => (ho5.blocks q hq).1); clear hg6 hv6) | fail)
    refine (load_bad v6 (SV ++ [0]) w6 (by simp; omega) ho6.seg hmore.out).mono ?_
    rintro e w7 ⟨rfl, hb7⟩
    have hB7 : Below w4.heap.size w4 w7 := hB6.trans (hb7.mono hB6.size)
    clear hB5 hB6 hb7 ho5 ho6
    go_wp2_with fail
    refine (load_bad _ (SV.take (N - 1)) w7 (by simp; omega) (sgl.out _ hB7) hless.out).mono ?_
    rintro e w8 ⟨rfl, hb8⟩
    have hB8 : Below w4.heap.size w4 w8 := hB7.trans (hb8.mono hB7.size)
    have hH8 := hH4.below hB8 hH4.lt
    have hpl := pad64_len (restOf bs) (by rw [restOf_len]; omega)
    unfold HashAt at hH8
    have hc72 := hH8.cell (j := 72) (v := .int .u64 (bs.length : Int)) (by simp [hashCells, St.list, hpl])
    rw [hl] at hc72
    have hS8 : Below w.heap.size w w8 := hS4.trans (hB8.mono s4)
    have hNe : ((N : Int) == 40 + (len : Int).tmod 64) = true := by have := HN.out; rw [Int.tmod_eq_emod_of_nonneg (by omega)]; simp; omega
    clear hB7 hb8 hB8 hH8 hH4 sgl hmx hpl hr4 sg4
    go_wp2
    · go_ret
      exact ⟨rfl, hS8⟩
    · exfalso
      have := HN.out
      rename_i hne
      exact hne (by omega)
end Go.Proofs.YtlihgfafjmhgjaaDoor
