/-
  What is proved here: boot.entries brings the entries that stand in a block's bytes, by their places, to a loop whose rounds all go on.
  Conditions: the bytes lie in memory; the variable fourBits holds the sixteen words.
-/
import Derived.Test.YtoemdmfpcobadaaDoorJBootOver
namespace Go.Proofs.YtoemdmfpcobadaaDoor
open Go.RowKit
attribute [local go_sem] Oper.semAt_some

/-- An entry and its place. -/
abbrev EntT := Nat × Nat × BR
def entI (b : List UInt8) (i : Nat) : Option EntT := (decE (cellB b i)).map fun p => (i, p.1, p.2)
def entsI (b : List UInt8) (l : List Nat) : List EntT := l.filterMap (entI b)
def encE (x : EntT) : Array Value := #[.int .i64 (x.1 : Int), enV x.2.1 x.2.2]
theorem round_in9 {m m' l l' : Nat} {f : FuncId} {tmps : Array Value} {assign body : Code} {w : World} {R : Ending → World → Prop} (h : RoundIn Fence.wide m Tryd.prog l f tmps assign body w R) : RoundIn (Fence.wide.inRound l') m' Tryd.prog l f tmps assign body w R := ⟨trivial, fun c cs _ => h.2 c cs (room_wide _)⟩

set_option maxRecDepth 100000 in
set_option maxHeartbeats 4000000 in
theorem entries_brings (Bn g : Nat) (ao : Option Addr) (c : Nat) (b : List UInt8) (w : World) (hc : 1024 ≤ c) (hBn : Bn < w.heap.size) (hcell : w.cell? ⟨Bn, 0, none⟩ = some (.slice ao 1024 c)) (hseg : Seg w (.slice ao 1024 c) b) (hbg : ∀ q, (Value.slice ao 1024 c).ownBlock = some q → q ≠ g) (hgf : 1 < w.heap.size) (hf : Tab w 1 (fours.map v32)) (hgg : 1 ≠ g) (hglt : g < w.heap.size) (hb : b.length = 1024) :
    Brings 5 58 #[.pointer (some ⟨Bn, 0, none⟩)] encE (fun q => q = g) (fun ys => ys = entsI b (List.range 32)) w := by
  intro l J W hW hl1 hl2 hJ hY h0
  have hcW : W.cell? ⟨Bn, 0, none⟩ = some (.slice ao 1024 c) := (hW.cell (p := ⟨Bn, 0, none⟩) hBn).trans hcell
  have hsW : Seg W (.slice ao 1024 c) b := hseg.below hW (Nat.le_refl _)
  have hsb : ∀ q, (Value.slice ao 1024 c).ownBlock = some q → q < w.heap.size := fun q hq => by
    obtain ⟨b', off, rfl, _, _, hbl⟩ := hseg.formD (by decide)
    obtain rfl : b' = q := Option.some.inj hq
    exact hbl
  have hfW := hf.below hW hgf
  have hfn : Fence.wide.fn 59 := trivial
  have hfn2 : Fence.wide.fn 60 := trivial
  have hsz := hW.size
  have hbA := (Below.refl W.heap.size W).alloc (Nat.le_refl _) (.cells #[.func (.yield l) #[] #[]] 103)
  have hcA : (W.alloc (.cells #[.func (.yield l) #[] #[]] 103)).cell? ⟨Bn, 0, none⟩ = some (.slice ao 1024 c) := (hbA.cell (p := ⟨Bn, 0, none⟩) (by show Bn < _; omega)).trans hcW
  have hyA := Blk.new W 103 #[.func (.yield l) #[] #[]]
  have hsA : (W.alloc (.cells #[.func (.yield l) #[] #[]] 103)).heap.size = W.heap.size + 1 := by simp
  refine callsIn_of_wp_marks Tryd.func58 rfl trivial ?_ rfl
  simp only [Tryd.ntmps58, List.size_toArray, List.length_cons, List.length_nil, Nat.reduceAdd, Nat.reduceSub, Array.replicate_succ, Array.replicate_zero, List.push_toArray, List.append_toArray, List.nil_append, List.cons_append]
  gi_wp2_with fail
  refine (callsIn_wide.2 (places_any ao 1024 c _)).mono ?_
  rintro e W3 ⟨rfl, hW3⟩
  rw [hsA]
  have hcell3 : W3.cell? ⟨W.heap.size + 1, 0, none⟩ = some (.slice ao 1024 c) := by rw [hW3]; exact (Blk.newAt _ 41 _ _ hsA.symm).cell rfl
  have hs3 : W.heap.size + 1 < W3.heap.size := by rw [hW3]; simp
  have hb3 : Below W.heap.size W W3 := by rw [hW3]; exact hbA.alloc (by simp) _
  have hy3 : Blk W3 W.heap.size 103 #[.func (.yield l) #[] #[]] := by rw [hW3]; exact hyA.alloc _
  have hs3' := hsW.below hb3 (Nat.le_refl _)
  have hf3 := hfW.below hb3 (by omega)
  have hJ3 : J [] W3 := by rw [hW3]; exact hJ.alloc _ (hJ.alloc _ h0)
  clear hW3 hcA hyA hsA hbA hcW hsW hfW h0
  gi_wp2_with fail
  refine wpIn_rangeFunc_ownG rfl (by decide) (gf := 66) (lb := #[.pointer (some ⟨W.heap.size + 1, 0, none⟩)]) rfl trivial (enters_of Tryd.func66 (by kernel_rfl) rfl)
    (places_stops 4 (by decide) (W.heap.size + 1) (fun q => q = g ∨ q = l ∨ W3.heap.size ≤ q) ao c hc (by rintro (h | h | h) <;> omega) W3 (by omega) hcell3) (fun h k => h.trans k (fun _ _ h => h)) (fun V l o o' hl _ _ _ => Chg.of_grown (grownBy_putObj' V l o') (fun k e => by cases e; exact .inr (.inr hl))) (Below.refl _ _) (fun _ => rfl)
    (fun pre V => J (entsI b (nums pre)) V ∧ Chg (fun q => q = g ∨ q = l ∨ W3.heap.size ≤ q) W3 V)
    (fun _ _ _ => False)
    (fun pre A B row ⟨h1, h2⟩ hg hr => ⟨hJ _ A B row h1 hg (fun r e => ⟨by have := (hr r e).1; omega, (hr r e).2⟩), h2.trans (Chg.of_grown (S := fun q => q = g ∨ q = l ∨ W3.heap.size ≤ q) hg (fun k e => .inr (.inr (hr k e).1))) (fun _ _ h => h)⟩)
    (fun _ _ _ _ _ h => h.elim)
    ⟨hJ3, Chg.refl _ _⟩
    (fun x => { tmps := #[.func (.yield l) #[] #[], .pointer (some ⟨Bn, 0, none⟩), .pointer (some ⟨W.heap.size, 0, none⟩), .int .i64 (x.val : Int), cellV ao c x.val, undef, undef, .slice ao 1024 c, .func (.func 66) #[] #[.pointer (some ⟨W.heap.size + 1, 0, none⟩)], .int .i64 (x.val : Int), cellV ao c x.val, undef, undef, undef, undef, undef, undef, undef, undef, undef, undef, undef, undef, undef], defers := [] }) ?assign ?body ?done ?stop
  case assign =>
    intro l x W K hK
    gi_wp2
    exact hK
  case body =>
    rintro l' pre x V ⟨hJv, hcv⟩ hlt
    have hF : ∀ f, (Fence.wide.inRound l').fn f := fun _ => trivial
    obtain ⟨X, hX⟩ := x
    dsimp only
    have HSN : Hid (nums (pre ++ [⟨X, hX⟩]) = nums pre ++ [X]) := by show _ = _; unfold nums; rw [List.map_append]; rfl
    have hsx : Seg V (cellV ao c X) (cellB b X) := seg_cell (hs3'.chg hcv (fun _ q hq e => by have := hsb q hq; have := hbg q hq; omega)) X hX
    have hyV := hy3.chg hcv (by show ¬ (W.heap.size = g ∨ W.heap.size = l ∨ W3.heap.size ≤ W.heap.size); omega)
    have hfV := hf3.chg hcv (by omega) (by show ¬ (1 = g ∨ 1 = l ∨ W3.heap.size ≤ 1); omega)
    have hlen : (cellB b X).length = 32 := by unfold cellB; rw [List.length_take, List.length_drop, hb]; omega
    have HDE : Hid (Calls Tryd.prog 60 #[cellV ao c X] V fun e w' => ∃ g b', e = .returned (.tuple #[enV g b', .bool (decE (cellB b X)).isSome]) ∧ (∀ p, decE (cellB b X) = some p → p = (g, b')) ∧ Below V.heap.size V w') := decode9_any _ _ V hlen hsx (by have := hcv.size; omega) hfV
    have HEN : Hid (entsI b (nums (pre ++ [⟨X, hX⟩])) = entsI b (nums pre) ++ (entI b X).toList) := by show _ = _; rw [HSN.out]; unfold entsI; rw [List.filterMap_append]; cases h : entI b X <;> simp [h]
    have HEI : Hid (entI b X = (decE (cellB b X)).map fun p => (X, p.1, p.2)) := rfl
    have hsV := hcv.size
    clear hsx hlen hfV HSN
    generalize decE (cellB b X) = DC at *
    cases DC with
    | none =>
      gi_wp2_with fail
      refine (CallsIn.inRound l' (callsIn_wide.2 HDE.out)).mono ?_
      rintro e V5 ⟨ge, be, rfl, -, hb5⟩
      clear HDE
      unfold enV enL
      have hkA : KeepsFrom W3.heap.size V5 (V5.alloc (.cells #[.int .i64 (ge : Int), .int .i64 be.active, .int .i64 be.trial, .int .i64 be.tries, .int .i64 be.v0, .int .i64 be.v1] 65)) := keepsFrom_alloc9 _
      have hk5 : KeepsFrom W3.heap.size V V5 := keeps_chg9 (S := fun _ => False) _ (Chg.of_below hb5 (Nat.le_refl _)) (fun k hk => hk.elim)
      have hb6 : Below V.heap.size V (V5.alloc (.cells #[.int .i64 (ge : Int), .int .i64 be.active, .int .i64 be.trial, .int .i64 be.tries, .int .i64 be.v0, .int .i64 be.v1] 65)) := hb5.alloc hb5.size _
      have hJ6 : J (entsI b (nums pre)) (V5.alloc (.cells #[.int .i64 (ge : Int), .int .i64 be.active, .int .i64 be.trial, .int .i64 be.tries, .int .i64 be.v0, .int .i64 be.v1] 65)) := hJ _ V _ none hJv (grown_of_below hb6 (Nat.le_refl _) none) (fun r e => by cases e)
      gi_wp2
      refine ⟨hk5.trans hkA, Chg.of_below hb6 (Nat.le_refl _), ?_, hcv.trans (Chg.of_below (S := fun q => q = g ∨ q = l ∨ W3.heap.size ≤ q) hb6 (Nat.le_refl _)) (fun _ _ h => h)⟩
      rw [HEN.out, HEI.out]
      simpa using hJ6
    | some p =>
      gi_wp2_with fail
      refine (CallsIn.inRound l' (callsIn_wide.2 HDE.out)).mono ?_
      rintro e V5 ⟨ge, be, rfl, hp, hb5⟩
      clear HDE
      have HP : Hid (p = (ge, be)) := hp p rfl
      clear hp
      unfold enV enL
      have hkA : KeepsFrom W3.heap.size V5 (V5.alloc (.cells #[.int .i64 (ge : Int), .int .i64 be.active, .int .i64 be.trial, .int .i64 be.tries, .int .i64 be.v0, .int .i64 be.v1] 65)) := keepsFrom_alloc9 _
      have hk5 : KeepsFrom W3.heap.size V V5 := keeps_chg9 (S := fun _ => False) _ (Chg.of_below hb5 (Nat.le_refl _)) (fun k hk => hk.elim)
      have hb6 : Below V.heap.size V (V5.alloc (.cells #[.int .i64 (ge : Int), .int .i64 be.active, .int .i64 be.trial, .int .i64 be.tries, .int .i64 be.v0, .int .i64 be.v1] 65)) := hb5.alloc hb5.size _
      have hJ6 : J (entsI b (nums pre)) (V5.alloc (.cells #[.int .i64 (ge : Int), .int .i64 be.active, .int .i64 be.trial, .int .i64 be.tries, .int .i64 be.v0, .int .i64 be.v1] 65)) := hJ _ V _ none hJv (grown_of_below hb6 (Nat.le_refl _) none) (fun r e => by cases e)
      have y6 := (hyV.below hb6 hyV.lt).cell (j := 0) rfl
      obtain ⟨fn, tmps, assign, body, hy, hR⟩ := hY (entsI b (nums pre)) (X, ge, be) _ hJ6
      dsimp only [encE, enV, enL] at hy
      gi_wp2
      refine (round_in9 hR).mono ?_
      clear hR hy y6
      rintro e V7 ⟨rfl, hJ7, hk7, hc7⟩
      gi_wp2
      have hc8 : Chg (fun q => q = g ∨ q = l ∨ W3.heap.size ≤ q) V V7 := (Chg.of_below (S := fun q => q = g ∨ q = l ∨ W3.heap.size ≤ q) hb6 (Nat.le_refl _)).trans hc7 (fun q _ h => by rcases h with h | h; exact .inl h; exact .inr (.inl h))
      refine ⟨(hk5.trans hkA).trans (keepsFrom_mono9 hk7 (by omega)), hc8, ?_, hcv.trans hc8 (fun _ _ h => h)⟩
      rw [HEN.out, HEI.out, HP.out]
      exact hJ7
  case done =>
    rintro D ys V hDD hS ⟨hJv, hcv⟩ hKD
    rw [hS] at hJv
    have hDW : W3.heap.size ≤ D := hDD
    gi_wp2
    (try simp only [Exit.noGoto])
    refine ⟨by simp, .inl ⟨_, _, rfl, run_takeDeferred hKD, ?_⟩⟩
    refine ⟨_, results_none rfl _ _ _, ⟨_, rfl⟩, _, rfl, ?_⟩
    exact hJ.putObj _ hJv (by omega) hKD rfl
  case stop =>
    rintro D c pre V _ _ h
    exact h.elim
end Go.Proofs.YtoemdmfpcobadaaDoor
