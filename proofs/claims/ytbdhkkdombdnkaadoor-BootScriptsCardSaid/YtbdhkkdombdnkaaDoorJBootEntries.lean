/-
  What is proved here: boot.entries brings the entries that stand in a block's bytes, by their places, to a loop whose rounds all go on. a statement that draws its order, within a round of a loop over a function: it may be walked as one outside of rounds. Keeper.find looks the last entry up in the two blocks.
  Conditions: the bytes lie in memory; the variable fourBits holds the sixteen words. it holds no deferred call. the keeper and its flash lie in memory, the two blocks are there; the variable fourBits holds the sixteen words.
-/
import Derived.Test.YtbdhkkdombdnkaaDoorJBootPlaces
namespace Go.Proofs.YtbdhkkdombdnkaaDoor
open Go.RowKit
attribute [local go_sem] Oper.semAt_some

/-- An entry and its place. -/
abbrev EntT := Nat × Nat × BR
def entI (b : List UInt8) (i : Nat) : Option EntT := (decE (cellB b i)).map fun p => (i, p.1, p.2)
def entsI (b : List UInt8) (l : List Nat) : List EntT := l.filterMap (entI b)
def encE (x : EntT) : Array Value := #[.int .i64 (x.1 : Int), enV x.2.1 x.2.2]
theorem round_in9 {m m' l l' : Nat} {f : FuncId} {tmps : Array Value} {assign body : Code} {w : World} {R : Ending → World → Prop} (h : RoundIn Fence.wide m Tryd.prog l f tmps assign body w R) : RoundIn (Fence.wide.inRound l') m' Tryd.prog l f tmps assign body w R := ⟨trivial, fun c cs _ => h.2 c cs (room_wide _)⟩

set_option maxRecDepth 100000 in
set_option maxHeartbeats 4000000 in
theorem entries_brings (Bn g : Nat) (ao : Option Addr) (c : Nat) (b : List UInt8) (w : World) (hc : 1024 ≤ c) (hBn : Bn < w.heap.size) (hcell : w.cell? ⟨Bn, 0, none⟩ = some (.slice ao 1024 c)) (hseg : Seg w (.slice ao 1024 c) b) (hbg : ∀ q, (Value.slice ao 1024 c).ownBlock = some q → q ≠ g) (hgf : 1 < w.heap.size) (hf : Tab w 1 (fours.map v32)) (hgg : 1 ≠ g) (hglt : g < w.heap.size) (hb : b.length = 1024) :
    Brings 5 58 #[.pointer (some ⟨Bn, 0, none⟩)] encE (fun q => q = g) (fun ys => ys = entsI b (List.range 32)) w := by
  intro l J W hW hl1 hl2 hJ hY h0
  have hcW : W.cell? ⟨Bn, 0, none⟩ = some (.slice ao 1024 c) := (hW.cell (p := ⟨Bn, 0, none⟩) hBn).trans hcell
  have hsW : Seg W (.slice ao 1024 c) b := hseg.below hW (Nat.le_refl _)
  have hsb : ∀ q, (Value.slice ao 1024 c).ownBlock = some q → q < w.heap.size := fun q hq => by
    obtain ⟨b', off, rfl, _, _, hbl⟩ := hseg.formD (by decide)
    obtain rfl : b' = q := Option.some.inj hq
    exact hbl
  have hfW := hf.below hW hgf
  have hfn : Fence.wide.fn 59 := trivial
  have hfn2 : Fence.wide.fn 60 := trivial
  have hsz := hW.size
  have hbA := (Below.refl W.heap.size W).alloc (Nat.le_refl _) (.cells #[.func (.yield l) #[] #[]] 103)
  have hcA : (W.alloc (.cells #[.func (.yield l) #[] #[]] 103)).cell? ⟨Bn, 0, none⟩ = some (.slice ao 1024 c) := (hbA.cell (p := ⟨Bn, 0, none⟩) (by show Bn < _; omega)).trans hcW
  have hyA := Blk.new W 103 #[.func (.yield l) #[] #[]]
  have hsA : (W.alloc (.cells #[.func (.yield l) #[] #[]] 103)).heap.size = W.heap.size + 1 := by simp
  refine callsIn_of_wp_marks Tryd.func58 rfl trivial ?_ rfl
  simp only [Tryd.ntmps58, List.size_toArray, List.length_cons, List.length_nil, Nat.reduceAdd, Nat.reduceSub, Array.replicate_succ, Array.replicate_zero, List.push_toArray, List.append_toArray, List.nil_append, List.cons_append]
  gi_wp2_with fail
  refine (callsIn_wide.2 (places_any ao 1024 c _)).mono ?_
  rintro e W3 ⟨rfl, hW3⟩
  rw [hsA]
  have hcell3 : W3.cell? ⟨W.heap.size + 1, 0, none⟩ = some (.slice ao 1024 c) := by rw [hW3]; exact (Blk.newAt _ 41 _ _ hsA.symm).cell rfl
  have hs3 : W.heap.size + 1 < W3.heap.size := by rw [hW3]; simp
  have hb3 : Below W.heap.size W W3 := by rw [hW3]; exact hbA.alloc (by simp) _
  have hy3 : Blk W3 W.heap.size 103 #[.func (.yield l) #[] #[]] := by rw [hW3]; exact hyA.alloc _
  have hs3' := hsW.below hb3 (Nat.le_refl _)
  have hf3 := hfW.below hb3 (by omega)
  have hJ3 : J [] W3 := by rw [hW3]; exact hJ.alloc _ (hJ.alloc _ h0)
  clear hW3 hcA hyA hsA hbA hcW hsW hfW h0
  gi_wp2_with fail
  refine wpIn_rangeFunc_ownG rfl (by decide) (gf := 66) (lb := #[.pointer (some ⟨W.heap.size + 1, 0, none⟩)]) rfl trivial (enters_of Tryd.func66 (by kernel_rfl) rfl)
    (places_stops 4 (by decide) (W.heap.size + 1) (fun q => q = g ∨ q = l ∨ W3.heap.size ≤ q) ao c hc (by rintro (h | h | h) <;> omega) W3 (by omega) hcell3) (fun h k => h.trans k (fun _ _ h => h)) (fun V l o o' hl _ _ _ => Chg.of_grown (grownBy_putObj' V l o') (fun k e => by cases e; exact .inr (.inr hl))) (Below.refl _ _) (fun _ => rfl)
    (fun pre V => J (entsI b (nums pre)) V ∧ Chg (fun q => q = g ∨ q = l ∨ W3.heap.size ≤ q) W3 V)
    (fun _ _ _ => False)
    (fun pre A B row ⟨h1, h2⟩ hg hr => ⟨hJ _ A B row h1 hg (fun r e => ⟨by have := (hr r e).1; omega, (hr r e).2⟩), h2.trans (Chg.of_grown (S := fun q => q = g ∨ q = l ∨ W3.heap.size ≤ q) hg (fun k e => .inr (.inr (hr k e).1))) (fun _ _ h => h)⟩)
    (fun _ _ _ _ _ h => h.elim)
    ⟨hJ3, Chg.refl _ _⟩
    (fun x => { tmps := #[.func (.yield l) #[] #[], .pointer (some ⟨Bn, 0, none⟩), .pointer (some ⟨W.heap.size, 0, none⟩), .int .i64 (x.val : Int), cellV ao c x.val, undef, undef, .slice ao 1024 c, .func (.func 66) #[] #[.pointer (some ⟨W.heap.size + 1, 0, none⟩)], .int .i64 (x.val : Int), cellV ao c x.val, undef, undef, undef, undef, undef, undef, undef, undef, undef, undef, undef, undef, undef], defers := [] }) ?assign ?body ?done ?stop
  case assign =>
    intro l x W K hK
    gi_wp2
    exact hK
  case body =>
    rintro l' pre x V ⟨hJv, hcv⟩ hlt
    have hF : ∀ f, (Fence.wide.inRound l').fn f := fun _ => trivial
    obtain ⟨X, hX⟩ := x
    dsimp only
    have HSN : Hid (nums (pre ++ [⟨X, hX⟩]) = nums pre ++ [X]) := by show _ = _; unfold nums; rw [List.map_append]; rfl
    have hsx : Seg V (cellV ao c X) (cellB b X) := seg_cell (hs3'.chg hcv (fun _ q hq e => by have := hsb q hq; have := hbg q hq; omega)) X hX
    have hyV := hy3.chg hcv (by show ¬ (W.heap.size = g ∨ W.heap.size = l ∨ W3.heap.size ≤ W.heap.size); omega)
    have hfV := hf3.chg hcv (by omega) (by show ¬ (1 = g ∨ 1 = l ∨ W3.heap.size ≤ 1); omega)
    have hlen : (cellB b X).length = 32 := by unfold cellB; rw [List.length_take, List.length_drop, hb]; omega
    have HDE : Hid (Calls Tryd.prog 60 #[cellV ao c X] V fun e w' => ∃ g b', e = .returned (.tuple #[enV g b', .bool (decE (cellB b X)).isSome]) ∧ (∀ p, decE (cellB b X) = some p → p = (g, b')) ∧ Below V.heap.size V w') := decode9_any _ _ V hlen hsx (by have := hcv.size; omega) hfV
    have HEN : Hid (entsI b (nums (pre ++ [⟨X, hX⟩])) = entsI b (nums pre) ++ (entI b X).toList) := by show _ = _; rw [HSN.out]; unfold entsI; rw [List.filterMap_append]; cases h : entI b X <;> simp [h]
    have HEI : Hid (entI b X = (decE (cellB b X)).map fun p => (X, p.1, p.2)) := rfl
    have hsV := hcv.size
    clear hsx hlen hfV HSN
    generalize decE (cellB b X) = DC at *
    cases DC with
    | none =>
      gi_wp2_with fail
      refine (CallsIn.inRound l' (callsIn_wide.2 HDE.out)).mono ?_
      rintro e V5 ⟨ge, be, rfl, -, hb5⟩
      clear HDE
      unfold enV enL
      have hkA : KeepsFrom W3.heap.size V5 (V5.alloc (.cells #[.int .i64 (ge : Int), .int .i64 be.active, .int .i64 be.trial, .int .i64 be.tries, .int .i64 be.v0, .int .i64 be.v1] 65)) := keepsFrom_alloc9 _
      have hk5 : KeepsFrom W3.heap.size V V5 := keeps_chg9 (S := fun _ => False) _ (Chg.of_below hb5 (Nat.le_refl _)) (fun k hk => hk.elim)
      have hb6 : Below V.heap.size V (V5.alloc (.cells #[.int .i64 (ge : Int), .int .i64 be.active, .int .i64 be.trial, .int .i64 be.tries, .int .i64 be.v0, .int .i64 be.v1] 65)) := hb5.alloc hb5.size _
      have hJ6 : J (entsI b (nums pre)) (V5.alloc (.cells #[.int .i64 (ge : Int), .int .i64 be.active, .int .i64 be.trial, .int .i64 be.tries, .int .i64 be.v0, .int .i64 be.v1] 65)) := hJ _ V _ none hJv (grown_of_below hb6 (Nat.le_refl _) none) (fun r e => by cases e)
      gi_wp2
      refine ⟨hk5.trans hkA, Chg.of_below hb6 (Nat.le_refl _), ?_, hcv.trans (Chg.of_below (S := fun q => q = g ∨ q = l ∨ W3.heap.size ≤ q) hb6 (Nat.le_refl _)) (fun _ _ h => h)⟩
      rw [HEN.out, HEI.out]
      simpa using hJ6
    | some p =>
      gi_wp2_with fail
      refine (CallsIn.inRound l' (callsIn_wide.2 HDE.out)).mono ?_
      rintro e V5 ⟨ge, be, rfl, hp, hb5⟩
      clear HDE
      have HP : Hid (p = (ge, be)) := hp p rfl
      clear hp
      unfold enV enL
      have hkA : KeepsFrom W3.heap.size V5 (V5.alloc (.cells #[.int .i64 (ge : Int), .int .i64 be.active, .int .i64 be.trial, .int .i64 be.tries, .int .i64 be.v0, .int .i64 be.v1] 65)) := keepsFrom_alloc9 _
      have hk5 : KeepsFrom W3.heap.size V V5 := keeps_chg9 (S := fun _ => False) _ (Chg.of_below hb5 (Nat.le_refl _)) (fun k hk => hk.elim)
      have hb6 : Below V.heap.size V (V5.alloc (.cells #[.int .i64 (ge : Int), .int .i64 be.active, .int .i64 be.trial, .int .i64 be.tries, .int .i64 be.v0, .int .i64 be.v1] 65)) := hb5.alloc hb5.size _
      have hJ6 : J (entsI b (nums pre)) (V5.alloc (.cells #[.int .i64 (ge : Int), .int .i64 be.active, .int .i64 be.trial, .int .i64 be.tries, .int .i64 be.v0, .int .i64 be.v1] 65)) := hJ _ V _ none hJv (grown_of_below hb6 (Nat.le_refl _) none) (fun r e => by cases e)
      have y6 := (hyV.below hb6 hyV.lt).cell (j := 0) rfl
      obtain ⟨fn, tmps, assign, body, hy, hR⟩ := hY (entsI b (nums pre)) (X, ge, be) _ hJ6
      dsimp only [encE, enV, enL] at hy
      gi_wp2
      refine (round_in9 hR).mono ?_
      clear hR hy y6
      rintro e V7 ⟨rfl, hJ7, hk7, hc7⟩
      gi_wp2
      have hc8 : Chg (fun q => q = g ∨ q = l ∨ W3.heap.size ≤ q) V V7 := (Chg.of_below (S := fun q => q = g ∨ q = l ∨ W3.heap.size ≤ q) hb6 (Nat.le_refl _)).trans hc7 (fun q _ h => by rcases h with h | h; exact .inl h; exact .inr (.inl h))
      refine ⟨(hk5.trans hkA).trans (keepsFrom_mono9 hk7 (by omega)), hc8, ?_, hcv.trans hc8 (fun _ _ h => h)⟩
      rw [HEN.out, HEI.out, HP.out]
      exact hJ7
  case done =>
    rintro D ys V hDD hS ⟨hJv, hcv⟩ hKD
    rw [hS] at hJv
    have hDW : W3.heap.size ≤ D := hDD
    gi_wp2
    (try simp only [Exit.noGoto])
    refine ⟨by simp, .inl ⟨_, _, rfl, run_takeDeferred hKD, ?_⟩⟩
    refine ⟨_, results_none rfl _ _ _, ⟨_, rfl⟩, _, rfl, ?_⟩
    exact hJ.putObj _ hJv (by omega) hKD rfl
  case stop =>
    rintro D c pre V _ _ h
    exact h.elim
end Go.Proofs.YtbdhkkdombdnkaaDoor
namespace Go.Proofs.YtbdhkkdombdnkaaDoor
open Go.RowKit

theorem upon_in9 {l n : Nat} {o : Oper} {a : Act} {K : Act → World → Prop} {Q : Exit → Act → World → Prop} {r : Result Next} (h : o.upon Tryd.prog a K Q r) : o.uponIn (Fence.wide.inRound l) n Tryd.prog a K Q r := by
  cases r with
  | ok x w =>
    cases x with
    | value v => exact h
    | skip => exact h
    | «defer» d => exact h
    | enter f args => exact ⟨fun e => (by cases e), CallsIn.inRound l (callsIn_wide.2 h)⟩
    | row row args => exact ⟨fun e => (by cases e), fun c cs _ => let ⟨v, w', r, s⟩ := h c cs; ⟨v, w', r, stepsIn_wide.2 s⟩⟩
    | _ => exact h.elim
  | halt x w =>
    cases x with
    | panic v => exact h
    | _ => exact h.elim
theorem op_in9 {l n i : Nat} {ops : Array Oper} {a : Act} {w : World} {K : Act → World → Prop} {Q : Exit → Act → World → Prop} (hd : ∀ (i : Nat) (o : Oper) c, ops[i]? = some o → o.op ≠ .defer c) (hL : ¬ LetsOut Q) (h : wpOp Tryd.prog ops Q i K a w) : wpOpIn (Fence.wide.inRound l) n Tryd.prog ops Q i K a w := by
  unfold wpOp at h
  unfold wpOpIn
  cases ho : ops[i]? with
  | none => rw [ho] at h; exact h
  | some o =>
    rw [ho] at h
    dsimp only at h ⊢
    by_cases hw : Region.wanted o (yielded ops a.tmps) = true
    · rw [if_pos hw] at h ⊢
      rcases h with h | h
      · refine ⟨fun _ _ => trivial, ?_⟩
        rw [Oper.semAt_eq _ _ _ (fun c => hd i o c ho)]
        exact upon_in9 h
      · exact absurd h.2 hL
    · rw [if_neg hw] at h ⊢
      exact ⟨fun _ _ => trivial, h⟩
theorem any_in9 {l n : Nat} {ops : Array Oper} {Q : Exit → Act → World → Prop} (hd : ∀ (i : Nat) (o : Oper) c, ops[i]? = some o → o.op ≠ .defer c) (hL : ¬ LetsOut Q) : ∀ (fuel : Nat) (listed : Array Bool) (a : Act) (w : World), wpAny Tryd.prog .any ops Q fuel listed a w → wpAnyIn (Fence.wide.inRound l) n Tryd.prog .any ops Q fuel listed a w
  | 0, _, _, _, h => h
  | fuel + 1, _, _, _, h => ⟨h.1, fun i hi => op_in9 hd hL (wpOp_mono (fun a' w' h' => any_in9 hd hL fuel _ a' w' h') (h.2 i hi))⟩
def noDefer9 (l : List Oper) : Bool := l.all fun o => match o.op with
  | .defer _ => false
  | _ => true
theorem noDefer_spec {l : List Oper} (h : noDefer9 l = true) : ∀ (i : Nat) (o : Oper) c, l.toArray[i]? = some o → o.op ≠ .defer c := by
  intro i o c ho e
  have hm : o ∈ l := List.mem_of_getElem? (by simpa using ho)
  have := List.all_eq_true.1 h o hm
  rw [e] at this
  cases this
theorem held_round {id lab n : Nat} {Q : Exit → Act → World → Prop} {a : Act} {w : World} {l : List Oper} (S : World → Prop) (hm : Tryd.prog.follows .mixedOrders = true) (hd : noDefer9 l = true) (hL : ¬ LetsOut Q)
    (h : wpAnyH Tryd.prog .any l.toArray (NoPanic Q) S l.toArray.size (Array.replicate l.toArray.size false) a w.drew) : (Code.region id l.toArray true).wpIn (Fence.wide.inRound lab) n Tryd.prog Q a w :=
  wpIn_mono (Q := NoPanic Q) (wpIn_region_any hm (any_in9 (Q := NoPanic Q) (noDefer_spec hd) (fun ⟨a', w', h'⟩ => hL ⟨a', w', h'⟩) _ _ _ _ (wpAny_of_held (Q := NoPanic Q) _ _ _ _ h))) (fun e a w h => NoPanic.imp e a w h)
end Go.Proofs.YtbdhkkdombdnkaaDoor
namespace Go.Proofs.YtbdhkkdombdnkaaDoor
open Go.RowKit
attribute [local go_sem] Oper.semAt_some

theorem op_mid9 {ops : Array Oper} {Q : Exit → Act → World → Prop} {K : Act → World → Prop} {a : Act} {w : World} (i : Nat) (o : Oper) (hi : ops[i]? = some o) (hd : o.dst = none) (hw : Region.wanted o (yielded ops a.tmps) = true) (ty : TypeId) (x y : Operand) (ho : o.op = .store ty x y)
    (g off : Nat) (cells : Array Value) (hx : a.eval x = .pointer (some ⟨g, off, none⟩)) (hy : a.eval y = .agg cells) (t : TypeId) (old new : Array Value) (hg : Blk w g t old) (hin : (Tryd.prog.info? ty).map (·.size) = some cells.size) (hfit : off + cells.size ≤ old.size) (h1 : cells.all (·.oneCell') = true) (hnew : (splice old.toList off cells.toList).toArray = new)
    (h : ∀ w', Blk w' g t new → w.grownBy w' (some g) → K a w') : wpOp Tryd.prog ops Q i K a w := by
  have hth : w.there g off cells.size := fun j hj => ⟨by rw [hg.cell (v := old[off + j]'(by omega)) (by simp [show off + j < old.size by omega])]; rfl, hg.frozen _⟩
  unfold wpOp
  simp only [hi, hw, if_true]
  refine .inl ?_
  refine wp_store_mid ty x y ho g off cells hx hy hth hin h1 ?_
  rw [hd]
  obtain ⟨h2, _⟩ := grown_setCells g cells.toList off w
  exact h _ ((Blk.setCells cells.toList off w old hg (by simpa using hfit)).of_eq hnew) h2
def stepE (wh : Nat) (k : KS) (x : EntT) : KS := if k.gen < x.2.1 then ⟨x.2.1, x.2.2, wh, x.1, k.br⟩ else k
def foldE (wh : Nat) (k : KS) (l : List EntT) : KS := l.foldl (stepE wh) k
theorem foldE_snoc (wh : Nat) (k : KS) (l : List EntT) (x : EntT) : foldE wh k (l ++ [x]) = stepE wh (foldE wh k l) x := by
  unfold foldE
  rw [List.foldl_append]
  rfl
theorem foldE_see (wh : Nat) (b : List UInt8) : ∀ (l : List Nat) (k : KS), foldE wh k (entsI b l) = l.foldl (seeK wh b) k
  | [], _ => rfl
  | i :: l, k => by
    have h1 : entsI b (i :: l) = (entI b i).toList ++ entsI b l := by
      unfold entsI
      cases h : entI b i <;> simp [h]
    rw [h1, List.foldl_cons, ← foldE_see wh b l]
    unfold foldE
    rw [List.foldl_append]
    congr 1
    unfold entI seeK
    cases decE (cellB b i) with
    | none => rfl
    | some p => rfl
theorem seeB_is (wh : Nat) (b : List UInt8) (k : KS) : foldE wh k (entsI b (List.range 32)) = seeB wh b k := foldE_see wh b _ k

set_option maxRecDepth 100000 in
set_option maxHeartbeats 8000000 in
theorem find9_any (L : PLay6) (s : FS) (g j : Nat) (k : KS) (w : World) (hK : Blk w g 71 (kpC L j k)) (hgT : ¬ L.T g) (hD : PFlash w L s) (hj : j + 1 < L.n) (hgf : 1 < w.heap.size) (hf : Tab w 1 (fours.map v32)) (hgg : 1 ≠ g) :
    Calls Tryd.prog 30 #[.pointer (some ⟨g, 0, none⟩)] w fun e w' => e = .returned (.int .i64 (lookE s)) ∧ Blk w' g 71 (kpC L j (if s.down then k else seeB 1 (blkB s (j + 1)) (seeB 0 (blkB s j) k))) ∧ Chg (fun q => q = g) w w' := by
  have hok := hD.ok
  have hglt := hK.lt
  have HKR1 : Hid (s.down = true → (if s.down then k else seeB 1 (blkB s (j + 1)) (seeB 0 (blkB s j) k)) = k) := fun h => if_pos h
  have HKR0 : Hid (¬ s.down = true → (if s.down then k else seeB 1 (blkB s (j + 1)) (seeB 0 (blkB s j) k)) = seeB 1 (blkB s (j + 1)) (seeB 0 (blkB s (j + 0)) k)) := fun h => if_neg h
  generalize (if s.down then k else seeB 1 (blkB s (j + 1)) (seeB 0 (blkB s j) k)) = KR at *
  have hfn : Fence.wide.fn 48 := trivial
  have hfn2 : Fence.wide.fn 49 := trivial
  obtain ⟨B0, hB0⟩ : ∃ B0, B0 = w.heap.size := ⟨_, rfl⟩
  have hbA := (Below.refl w.heap.size w).alloc (Nat.le_refl _) (.cells #[.pointer (some ⟨g, 0, none⟩)] 32)
  have hkB := Blk.new w 32 #[.pointer (some ⟨g, 0, none⟩)]
  have hcA : Chg (fun q => q = g) w (w.alloc (.cells #[.pointer (some ⟨g, 0, none⟩)] 32)) := (Chg.refl _ _).alloc _
  have hKA := hK.below hbA hK.lt
  have hDA := thePF.after hD hbA
  have hfA := hf.below hbA hgf
  have hBlt : B0 < (w.alloc (.cells #[.pointer (some ⟨g, 0, none⟩)] 32)).heap.size := by rw [hB0]; simp
  rw [← hB0] at hkB
  have hBg : B0 ≠ g := by omega
  have hB0' : w.heap.size ≤ B0 := by omega
  clear hK hD hf hbA
  refine (callsIn_wide (n := 6)).1 ?_
  refine callsIn_of_wp_marks Tryd.func30 rfl trivial ?_ rfl
  simp only [Tryd.ntmps30, List.size_toArray, List.length_cons, List.length_nil, Nat.reduceAdd, Nat.reduceSub, Array.replicate_succ, Array.replicate_zero, List.push_toArray, List.append_toArray, List.nil_append, List.cons_append]
  gi_wp2_with fail
  rw [← hB0]
  generalize w.alloc (.cells #[.pointer (some ⟨g, 0, none⟩)] 32) = Wp at *
  clear hB0
  refine wpIn_loop_rounds 3 ?_
  rw [roundsIn_succ]
  have hbI := (Below.refl Wp.heap.size Wp).alloc (Nat.le_refl _) (.cells #[.int .i64 0] 3)
  have hkI := Blk.new Wp 3 #[.int .i64 0]
  obtain ⟨Ni, hNi⟩ : ∃ Ni, Ni = Wp.heap.size := ⟨_, rfl⟩
  rw [← hNi] at hkI
  have hsI := hbI.size
  have kK1 := hKA.below hbI hKA.lt
  have kB1 := hkB.below hbI hkB.lt
  have d0 := kB1.cell (j := 0) rfl
  have d1 := hkI.cell (j := 0) rfl
  have HRD : Hid (Calls Tryd.prog 48 #[.pointer (some ⟨g, 0, none⟩), .int .i64 0] (Wp.alloc (.cells #[.int .i64 0] 3)) fun e w' => ∃ v, e = .returned (.tuple #[v, .int .i64 (lookE s)]) ∧ Own w' (Wp.alloc (.cells #[.int .i64 0] 3)).heap.size v (lookB s (j + 0)) ∧ Below (Wp.alloc (.cells #[.int .i64 0] 3)).heap.size (Wp.alloc (.cells #[.int .i64 0] 3)) w') := read9_any L s g j 0 k _ kK1 (thePF.after hDA hbI) (by omega)
  gi_wp2_with fail
  refine (callsIn_wide.2 HRD.out).mono ?_
  rintro e W1 ⟨v1, rfl, ho1, hb1⟩
  clear HRD d0 d1
  rw [← hNi]
  have hNi1 : Wp.heap.size ≤ Ni := by omega
  clear hNi
  obtain ⟨a1, c1, hv1⟩ := ho1.seg.shapeD
  subst hv1
  have hbW : Below Wp.heap.size Wp W1 := hbI.trans (hb1.mono hbI.size)
  have kI2 := hkI.below hb1 hkI.lt
  clear hkI kK1 kB1 hbI hb1
  by_cases hdn : s.down = true
  · have e1 : lookE s = 7 := by unfold lookE; rw [if_pos hdn]
    rw [e1]
    have HKR := HKR1.out hdn
    have kK9 := hKA.below hbW hKA.lt
    gi_wp2
    (try simp only [Exit.noGoto])
    refine ⟨_, results_tmp rfl _ _ _, by rw [e1]; rfl, by rw [HKR]; exact kK9, hcA.trans (Chg.of_below (S := fun q => q = g) hbW (Nat.le_refl _)) (fun _ _ h => h)⟩
  have e1 : lookE s = 0 := by unfold lookE; rw [if_neg hdn]
  have HL0 : Hid (lookE s = 0) := e1
  have HKR2 : Hid (KR = seeB 1 (blkB s (j + 1)) (seeB 0 (blkB s (j + 0)) k)) := HKR0.out hdn
  have e2 : lookB s (j + 0) = blkB s (j + 0) := by unfold lookB; rw [if_neg hdn]
  have hbl := blkB_len hok (j := j + 0) (by omega)
  rw [e2, hbl] at ho1
  rw [e1, e2, hbl]
  clear e1 e2
  obtain ⟨b0, hbb0⟩ : ∃ b, b = blkB s (j + 0) := ⟨_, rfl⟩
  rw [← hbb0] at ho1 hbl
  have HB0 : Hid (b0 = blkB s (j + 0)) := hbb0
  clear hbb0
  have hc1 : 1024 ≤ c1 := by
    obtain ⟨_, _, _, hcc, _, _⟩ := ho1.seg.formD (by decide)
    exact hcc
  have HBL : Hid (b0.length = 1024) := hbl
  clear hbl
  gi_wp2_with fail
  refine (callsIn_wide.2 (entries_any a1 1024 c1 W1)).mono ?_
  rintro e W3 ⟨rfl, hW3⟩
  obtain ⟨Bn, hBn⟩ : ∃ Bn, Bn = W1.heap.size := ⟨_, rfl⟩
  rw [← hBn]
  have hcell3 : W3.cell? ⟨Bn, 0, none⟩ = some (.slice a1 1024 c1) := by rw [hW3, hBn]; exact (Blk.new W1 _ _).cell rfl
  have hs3 : Bn < W3.heap.size := by rw [hW3, hBn]; simp
  have hb3 : Below W1.heap.size W1 W3 := by rw [hW3]; exact (Below.refl _ _).alloc (Nat.le_refl _) _
  have hbX : Below Wp.heap.size Wp W3 := hbW.trans (hb3.mono hbW.size)
  have kI3 := kI2.below hb3 kI2.lt
  have hseg3 : Seg W3 (.slice a1 1024 c1) b0 := ho1.seg.below hb3 (Nat.le_refl _)
  have n0 := hkB.below hbX hkB.lt
  have nK := hKA.below hbX hKA.lt
  have nD := thePF.after hDA hbX
  have nf := hfA.below hbX (by have := hcA.size; omega)
  have nc : Chg (fun q => q = g) w W3 := hcA.trans (Chg.of_below (S := fun q => q = g) hbX (Nat.le_refl _)) (fun _ _ h => h)
  have hglt3 : g < Wp.heap.size := hKA.lt
  have hsW := hbW.size
  have hB0W : B0 < W3.heap.size := n0.lt
  have hbg : ∀ q, (Value.slice a1 1024 c1).ownBlock = some q → q ≠ g := fun q hq => by have := (ho1.blocks q hq).1; omega
  have hNg : Ni ≠ g := by omega
  have hBnW : Wp.heap.size ≤ Bn := by omega
  clear hW3 hbX hb3 hbW ho1 kI2 hBn hsI hKA hDA hfA hcA hkB
  gi_wp2_with fail
  refine over_all (by decide) (gf := 58) (lb := #[.pointer (some ⟨Bn, 0, none⟩)]) rfl (enters_of Tryd.func58 (by kernel_rfl) rfl)
    (entries_brings Bn g a1 c1 b0 W3 hc1 hs3 hcell3 hseg3 hbg (by have := nc.size; omega) nf hgg (by omega) HBL.out) (fun _ => rfl)
    (fun pre V => Blk V g 71 (kpC L j (foldE 0 k pre)) ∧ Chg (fun q => q = g ∨ W3.heap.size ≤ q) W3 V)
    (fun pre A B row ⟨h1, h2⟩ hgr hr => ⟨h1.grown hgr (fun e => by have := (hr _ e.symm).1; omega), h2.trans (Chg.of_grown (S := fun q => q = g ∨ W3.heap.size ≤ q) hgr (fun k e => .inr (hr k e).1)) (fun _ _ h => h)⟩)
    ⟨nK, Chg.refl _ _⟩ (fun x => .cells (enL x.2.1 x.2.2) 65)
    (fun x N => { tmps := #[.pointer (some ⟨g, 0, none⟩), .pointer (some ⟨B0, 0, none⟩), .int .i64 0, .pointer (some ⟨Ni, 0, none⟩), .slice a1 1024 c1, .int .i64 0, .int .i64 (x.1 : Int), .pointer (some ⟨N, 0, none⟩), .int .i64 0, .bool true, .int .i64 0, .tuple #[.slice a1 1024 c1, .int .i64 0], .pointer (some ⟨g, 0, none⟩), .int .i64 0, .tuple #[.slice a1 1024 c1, .int .i64 0], .slice a1 1024 c1, .int .i64 0, .int .i64 0, .bool false, undef, .slice a1 1024 c1, .func (.func 58) #[] #[.pointer (some ⟨Bn, 0, none⟩)], .int .i64 (x.1 : Int), enV x.2.1 x.2.2, undef, undef, undef, undef, undef, undef, undef, undef, undef, undef, undef, undef, undef, undef, undef, undef, undef, undef, undef], defers := [] }) ?assign0 ?body0 ?done0
  case assign0 =>
    rintro l ⟨xi, xg, xr⟩ W K hK
    dsimp only [encE, enV, enL] at hK ⊢
    gi_wp2
    exact hK
  case body0 =>
    rintro lab pre ⟨xi, xg, xr⟩ N V ⟨vK, vc⟩ hobj hNW
    dsimp only [enV, enL] at hobj ⊢
    have hN : Blk V N 65 #[.int .i64 (xg : Int), .int .i64 xr.active, .int .i64 xr.trial, .int .i64 xr.tries, .int .i64 xr.v0, .int .i64 xr.v1] := hobj
    have v0 := n0.chg vc (by show ¬ (B0 = g ∨ W3.heap.size ≤ B0); omega)
    have vI := kI3.chg vc (by show ¬ (Ni = g ∨ W3.heap.size ≤ Ni); have := kI3.lt; omega)
    have h0 := v0.cell (j := 0) rfl
    have h1 := vI.cell (j := 0) rfl
    have hNN : N ≠ g := by omega
    have HST : Hid (foldE 0 k (pre ++ [(xi, xg, xr)]) = stepE 0 (foldE 0 k pre) (xi, xg, xr)) := foldE_snoc 0 k pre (xi, xg, xr)
    generalize foldE 0 k (pre ++ [(xi, xg, xr)]) = KN at *
    generalize foldE 0 k pre = kk at *
    have HS2 : Hid (KN = if kk.gen < xg then ⟨xg, xr, 0, xi, kk.br⟩ else kk) := HST.out
    clear HST
    have hS0 : V.drew.cell? ⟨N, 0, none⟩ = some (.int .i64 (xg : Int)) ∧ V.drew.cell? ⟨B0, 0, none⟩ = some (.pointer (some ⟨g, 0, none⟩)) ∧ V.drew.cell? ⟨g, 2, none⟩ = some (.int .i64 (kk.gen : Int)) := ⟨hN.drew.cell (j := 0) rfl, h0, vK.drew.cell (j := 2) rfl⟩
    gi_wp2_with fail
    refine wpIn_mono (Q := fun e a' W' => e = .normal ∧ a' = { tmps := #[.pointer (some ⟨g, 0, none⟩), .pointer (some ⟨B0, 0, none⟩), .int .i64 0, .pointer (some ⟨Ni, 0, none⟩), .slice a1 1024 c1, .int .i64 0, .int .i64 (xi : Int), .pointer (some ⟨N, 0, none⟩), .int .i64 0, .bool true, .int .i64 0, .tuple #[.slice a1 1024 c1, .int .i64 0], .pointer (some ⟨g, 0, none⟩), .int .i64 0, .tuple #[.slice a1 1024 c1, .int .i64 0], .slice a1 1024 c1, .int .i64 0, .int .i64 0, .bool false, undef, .slice a1 1024 c1, .func (.func 58) #[] #[.pointer (some ⟨Bn, 0, none⟩)], .int .i64 (xi : Int), .agg #[.int .i64 (xg : Int), .int .i64 xr.active, .int .i64 xr.trial, .int .i64 xr.tries, .int .i64 xr.v0, .int .i64 xr.v1], .pointer (some ⟨N, 0, none⟩), .int .i64 (xg : Int), .pointer (some ⟨g, 0, none⟩), .pointer (some ⟨g, 0, none⟩), .pointer (some ⟨g, 2, none⟩), .pointer (some ⟨g, 2, none⟩), .int .i64 (kk.gen : Int), .bool (decide (kk.gen < xg)), undef, undef, undef, undef, undef, undef, undef, undef, undef, undef, undef], defers := [] } ∧ W' = V.drew) ?_ ?_
    · refine held_round (fun V => V.cell? ⟨N, 0, none⟩ = some (.int .i64 (xg : Int)) ∧ V.cell? ⟨B0, 0, none⟩ = some (.pointer (some ⟨g, 0, none⟩)) ∧ V.cell? ⟨g, 2, none⟩ = some (.int .i64 (kk.gen : Int))) (by kernel_rfl) (by kernel_rfl) (fun ⟨_, _, h⟩ => by cases h.1) ?_
      refine held_take 0 24 _ (.pointer (some ⟨N, 0, none⟩)) rfl rfl (by kernel_rfl) (by kernel_rfl) (by kernel_rfl) rfl hS0 (fun _ _ => rfl) ?_
      simp only [Act.put, List.setIfInBounds_toArray, List.set_cons_succ, List.set_cons_zero]
      refine held_take 1 25 _ (.int .i64 (xg : Int)) rfl rfl (by kernel_rfl) (by kernel_rfl) (by kernel_rfl) rfl hS0 (fun V hV => exec_loadc 3 _ rfl _ _ rfl (load_one 3 (fun _ => by kernel_rfl) V _ _ _ hV.1)) ?_
      simp only [Act.put, List.setIfInBounds_toArray, List.set_cons_succ, List.set_cons_zero]
      refine held_take 2 26 _ (.pointer (some ⟨g, 0, none⟩)) rfl rfl (by kernel_rfl) (by kernel_rfl) (by kernel_rfl) rfl hS0 (fun V hV => exec_loadc 32 _ rfl _ _ rfl (load_one 32 (fun _ => by kernel_rfl) V _ _ _ hV.2.1)) ?_
      simp only [Act.put, List.setIfInBounds_toArray, List.set_cons_succ, List.set_cons_zero]
      refine held_take 3 27 _ (.pointer (some ⟨g, 0, none⟩)) rfl rfl (by kernel_rfl) (by kernel_rfl) (by kernel_rfl) rfl hS0 (fun _ _ => rfl) ?_
      simp only [Act.put, List.setIfInBounds_toArray, List.set_cons_succ, List.set_cons_zero]
      refine held_take 4 28 _ (.pointer (some ⟨g, 2, none⟩)) rfl rfl (by kernel_rfl) (by kernel_rfl) (by kernel_rfl) rfl hS0 (fun _ _ => rfl) ?_
      simp only [Act.put, List.setIfInBounds_toArray, List.set_cons_succ, List.set_cons_zero]
      refine held_take 5 29 _ (.pointer (some ⟨g, 2, none⟩)) rfl rfl (by kernel_rfl) (by kernel_rfl) (by kernel_rfl) rfl hS0 (fun _ _ => rfl) ?_
      simp only [Act.put, List.setIfInBounds_toArray, List.set_cons_succ, List.set_cons_zero]
      refine held_take 6 30 _ (.int .i64 (kk.gen : Int)) rfl rfl (by kernel_rfl) (by kernel_rfl) (by kernel_rfl) rfl hS0 (fun V hV => exec_loadc 3 _ rfl _ _ rfl (load_one 3 (fun _ => by kernel_rfl) V _ _ _ hV.2.2)) ?_
      simp only [Act.put, List.setIfInBounds_toArray, List.set_cons_succ, List.set_cons_zero]
      refine held_take 7 31 _ (.bool (decide (kk.gen < xg))) rfl rfl (by kernel_rfl) (by kernel_rfl) (by kernel_rfl) rfl hS0 (fun V _ => exec_gtr7 3 _ _ rfl (xg : Int) (kk.gen : Int) _ rfl rfl (decide_eq_decide.2 Int.ofNat_lt)) ?_
      simp only [Act.put, List.setIfInBounds_toArray, List.set_cons_succ, List.set_cons_zero]
      refine wpAnyH_done (by kernel_rfl) ?_ _
      refine NoPanic.normal ?_
      exact ⟨rfl, rfl, rfl⟩
    rintro e a2 W2 ⟨rfl, rfl, rfl⟩
    by_cases hlt : kk.gen < xg
    · rw [if_pos hlt] at HS2
      rw [decide_eq_true hlt]
      have HCL : Hid (∀ V', Chg (fun q => q = g) V.drew.drew V' → V'.cell? ⟨B0, 0, none⟩ = some (.pointer (some ⟨g, 0, none⟩)) ∧ V'.cell? ⟨Ni, 0, none⟩ = some (.int .i64 0) ∧ V'.rangeAt N 0 [.int .i64 (xg : Int), .int .i64 xr.active, .int .i64 xr.trial, .int .i64 xr.tries, .int .i64 xr.v0, .int .i64 xr.v1]) := fun V' hc => ⟨(v0.drew.drew.chg hc hBg).cell (j := 0) rfl, (vI.drew.drew.chg hc hNg).cell (j := 0) rfl, (hN.drew.drew.chg hc hNN).range'⟩
      have hS2 := HCL.out V.drew.drew (Chg.refl _ _)
      clear hS0 h0 h1
      gi_wp2_with fail
      refine wpIn_mono (Q := fun e a' W' => e = .normal ∧ Blk W' g 71 (kpC L j ⟨xg, xr, 0, xi, kk.br⟩) ∧ Chg (fun q => q = g) V W') ?_ ?_
      · refine held_round (fun V => V.cell? ⟨B0, 0, none⟩ = some (.pointer (some ⟨g, 0, none⟩)) ∧ V.cell? ⟨Ni, 0, none⟩ = some (.int .i64 0) ∧ V.rangeAt N 0 [.int .i64 (xg : Int), .int .i64 xr.active, .int .i64 xr.trial, .int .i64 xr.tries, .int .i64 xr.v0, .int .i64 xr.v1]) (by kernel_rfl) (by kernel_rfl) (fun ⟨_, _, h⟩ => by cases h.1) ?_
        refine held_take 0 32 _ (.pointer (some ⟨g, 0, none⟩)) rfl rfl (by kernel_rfl) (by kernel_rfl) (by kernel_rfl) rfl hS2 (fun V hV => exec_loadc 32 _ rfl _ _ rfl (load_one 32 (fun _ => by kernel_rfl) V _ _ _ hV.1)) ?_
        simp only [Act.put, List.setIfInBounds_toArray, List.set_cons_succ, List.set_cons_zero]
        refine held_take 1 33 _ (.pointer (some ⟨g, 0, none⟩)) rfl rfl (by kernel_rfl) (by kernel_rfl) (by kernel_rfl) rfl hS2 (fun V hV => exec_loadc 32 _ rfl _ _ rfl (load_one 32 (fun _ => by kernel_rfl) V _ _ _ hV.1)) ?_
        simp only [Act.put, List.setIfInBounds_toArray, List.set_cons_succ, List.set_cons_zero]
        refine held_take 2 34 _ (.agg #[.int .i64 (xg : Int), .int .i64 xr.active, .int .i64 xr.trial, .int .i64 xr.tries, .int .i64 xr.v0, .int .i64 xr.v1]) rfl rfl (by kernel_rfl) (by kernel_rfl) (by kernel_rfl) rfl hS2 (fun V hV => exec_loads 65 _ rfl N 0 rfl [.int .i64 (xg : Int), .int .i64 xr.active, .int .i64 xr.trial, .int .i64 xr.tries, .int .i64 xr.v0, .int .i64 xr.v1] _ hV.2.2 Tryd.underlying65 rfl info_ent9) ?_
        simp only [Act.put, List.setIfInBounds_toArray, List.set_cons_succ, List.set_cons_zero]
        refine held_take 3 35 _ (.int .i64 0) rfl rfl (by kernel_rfl) (by kernel_rfl) (by kernel_rfl) rfl hS2 (fun V hV => exec_loadc 3 _ rfl _ _ rfl (load_one 3 (fun _ => by kernel_rfl) V _ _ _ hV.2.1)) ?_
        simp only [Act.put, List.setIfInBounds_toArray, List.set_cons_succ, List.set_cons_zero]
        refine held_take 4 36 _ (.int .i64 (xi : Int)) rfl rfl (by kernel_rfl) (by kernel_rfl) (by kernel_rfl) rfl hS2 (fun _ _ => rfl) ?_
        simp only [Act.put, List.setIfInBounds_toArray, List.set_cons_succ, List.set_cons_zero]
        refine held_take 5 37 _ (.agg #[.int .i64 0, .int .i64 (xi : Int)]) rfl rfl (by kernel_rfl) (by kernel_rfl) (by kernel_rfl) rfl hS2 (fun _ _ => by kernel_rfl) ?_
        simp only [Act.put, List.setIfInBounds_toArray, List.set_cons_succ, List.set_cons_zero]
        refine held_take 6 38 _ (.pointer (some ⟨g, 0, none⟩)) rfl rfl (by kernel_rfl) (by kernel_rfl) (by kernel_rfl) rfl hS2 (fun _ _ => rfl) ?_
        simp only [Act.put, List.setIfInBounds_toArray, List.set_cons_succ, List.set_cons_zero]
        refine held_take 7 39 _ (.pointer (some ⟨g, 2, none⟩)) rfl rfl (by kernel_rfl) (by kernel_rfl) (by kernel_rfl) rfl hS2 (fun _ _ => rfl) ?_
        simp only [Act.put, List.setIfInBounds_toArray, List.set_cons_succ, List.set_cons_zero]
        refine held_all1 8 (by kernel_rfl) (op_mid9 8 _ rfl rfl rfl 65 _ _ rfl g 2 #[.int .i64 (xg : Int), .int .i64 xr.active, .int .i64 xr.trial, .int .i64 xr.tries, .int .i64 xr.v0, .int .i64 xr.v1] rfl rfl 71 _ #[.pointer (some ⟨L.g, 0, none⟩), .int .i64 (j : Int), .int .i64 (xg : Int), .int .i64 xr.active, .int .i64 xr.trial, .int .i64 xr.tries, .int .i64 xr.v0, .int .i64 xr.v1, .int .i64 (kk.wh : Int), .int .i64 kk.la, .bool kk.br] vK.drew.drew info_ent9 (by show 8 ≤ 11; decide) (by simp [Value.oneCell']) (by simp [kpC, splice]) ?_)
        intro W8 hb8 hg8
        have hc8 : Chg (fun q => q = g) V.drew.drew W8 := Chg.of_grown hg8 (fun k e => by cases e; rfl)
        have hS8 := HCL.out W8 hc8
        refine ⟨hS8, ?_⟩
        refine held_take 9 40 _ (.pointer (some ⟨g, 0, none⟩)) rfl rfl (by kernel_rfl) (by kernel_rfl) (by kernel_rfl) rfl hS8 (fun _ _ => rfl) ?_
        simp only [Act.put, List.setIfInBounds_toArray, List.set_cons_succ, List.set_cons_zero]
        refine held_take 10 41 _ (.pointer (some ⟨g, 8, none⟩)) rfl rfl (by kernel_rfl) (by kernel_rfl) (by kernel_rfl) rfl hS8 (fun _ _ => rfl) ?_
        simp only [Act.put, List.setIfInBounds_toArray, List.set_cons_succ, List.set_cons_zero]
        refine held_all1 11 (by kernel_rfl) (op_mid9 11 _ rfl rfl rfl 68 _ _ rfl g 8 #[.int .i64 0, .int .i64 (xi : Int)] rfl rfl 71 _ (kpC L j ⟨xg, xr, 0, xi, kk.br⟩) hb8 info_place9 (by show 10 ≤ 11; decide) (by simp [Value.oneCell']) (by simp [kpC, splice]) ?_)
        intro W9 hb9 hg9
        have hc9 : Chg (fun q => q = g) V.drew.drew W9 := hc8.trans (Chg.of_grown (S := fun q => q = g) hg9 (fun k e => by cases e; rfl)) (fun _ _ h => h)
        refine ⟨HCL.out W9 hc9, ?_⟩
        refine wpAnyH_done (by kernel_rfl) ?_ _
        refine NoPanic.normal ?_
        exact ⟨rfl, hb9, (((Chg.refl (fun q => q = g) V).drew).drew).trans hc9 (fun _ _ h => h)⟩
      rintro e a3 W9 ⟨rfl, hb9, hc9⟩
      gi_wp2
      refine ⟨keeps_chg9 _ hc9 (fun k hk o ho => by subst hk; exact blk_isCells9 vK o ho), ?_, vc.trans hc9 (fun _ _ h => .inl h)⟩
      rw [HS2.out]
      exact hb9
    · rw [if_neg hlt] at HS2
      rw [decide_eq_false hlt]
      clear hS0 h0 h1
      gi_wp2
      refine ⟨keeps_chg9 (S := fun _ => False) _ ((Chg.refl _ V).drew) (fun _ h => h.elim), (Chg.refl _ V).drew, ?_, vc.drew⟩
      rw [HS2.out]
      exact vK.drew
  case done0 =>
    rintro D0 ys V hD0 rfl ⟨vK, vc⟩ hKD0
    rw [seeB_is, HB0.out] at vK
    have v0 := n0.chg vc (by show ¬ (B0 = g ∨ W3.heap.size ≤ B0); omega)
    have vD := nD.chg vc (fun q hq e => by rcases e with rfl | e; exact hgT hq; have := nD.lt q hq; omega)
    have vf := nf.chg vc (by have := nc.size; omega) (by have := nc.size; show ¬ (1 = g ∨ W3.heap.size ≤ 1); omega)
    have vcw : Chg (fun q => q = g) w V := nc.trans vc (fun q hq e => by rcases e with e | e; exact e; have := nc.size; omega)
    gi_wp2_with fail
    clear n0 nK nD nf nc kI3 hseg3 hcell3 vc
    rw [roundsIn_succ]
    have hbI := (Below.refl V.heap.size V).alloc (Nat.le_refl _) (.cells #[.int .i64 1] 3)
    have hkI := Blk.new V 3 #[.int .i64 1]
    obtain ⟨Ni, hNi⟩ : ∃ Ni, Ni = V.heap.size := ⟨_, rfl⟩
    rw [← hNi] at hkI
    have hsI := hbI.size
    have kK1 := vK.below hbI vK.lt
    have kB1 := v0.below hbI v0.lt
    have d0 := kB1.cell (j := 0) rfl
    have d1 := hkI.cell (j := 0) rfl
    have HRD : Hid (Calls Tryd.prog 48 #[.pointer (some ⟨g, 0, none⟩), .int .i64 1] (V.alloc (.cells #[.int .i64 1] 3)) fun e w' => ∃ v, e = .returned (.tuple #[v, .int .i64 (lookE s)]) ∧ Own w' (V.alloc (.cells #[.int .i64 1] 3)).heap.size v (lookB s (j + 1)) ∧ Below (V.alloc (.cells #[.int .i64 1] 3)).heap.size (V.alloc (.cells #[.int .i64 1] 3)) w') := read9_any L s g j 1 (seeB 0 (blkB s (j + 0)) k) _ kK1 (thePF.after vD hbI) (by omega)
    gi_wp2_with fail
    refine (callsIn_wide.2 HRD.out).mono ?_
    rintro e W1 ⟨v1, rfl, ho1, hb1⟩
    clear HRD d0 d1
    rw [← hNi]
    have hNi1 : V.heap.size ≤ Ni := by omega
    clear hNi
    obtain ⟨a1, c1, hv1⟩ := ho1.seg.shapeD
    subst hv1
    have hbW : Below V.heap.size V W1 := hbI.trans (hb1.mono hbI.size)
    have kI2 := hkI.below hb1 hkI.lt
    clear hkI kK1 kB1 hbI hb1
    have e1 := HL0.out
    have e2 : lookB s (j + 1) = blkB s (j + 1) := by unfold lookB; rw [if_neg hdn]
    have hbl := blkB_len hok (j := j + 1) (by omega)
    rw [e2, hbl] at ho1
    rw [e1, e2, hbl]
    clear e1 e2
    obtain ⟨b1, hbb1⟩ : ∃ b, b = blkB s (j + 1) := ⟨_, rfl⟩
    rw [← hbb1] at ho1 hbl
    have HB1 : Hid (b1 = blkB s (j + 1)) := hbb1
    clear hbb1
    have hc1 : 1024 ≤ c1 := by
      obtain ⟨_, _, _, hcc, _, _⟩ := ho1.seg.formD (by decide)
      exact hcc
    have HBL : Hid (b1.length = 1024) := hbl
    clear hbl
    gi_wp2_with fail
    refine (callsIn_wide.2 (entries_any a1 1024 c1 W1)).mono ?_
    rintro e W3 ⟨rfl, hW3⟩
    obtain ⟨Bn, hBn⟩ : ∃ Bn, Bn = W1.heap.size := ⟨_, rfl⟩
    rw [← hBn]
    have hcell3 : W3.cell? ⟨Bn, 0, none⟩ = some (.slice a1 1024 c1) := by rw [hW3, hBn]; exact (Blk.new W1 _ _).cell rfl
    have hs3 : Bn < W3.heap.size := by rw [hW3, hBn]; simp
    have hb3 : Below W1.heap.size W1 W3 := by rw [hW3]; exact (Below.refl _ _).alloc (Nat.le_refl _) _
    have hbX : Below V.heap.size V W3 := hbW.trans (hb3.mono hbW.size)
    have kI3 := kI2.below hb3 kI2.lt
    have hseg3 : Seg W3 (.slice a1 1024 c1) b1 := ho1.seg.below hb3 (Nat.le_refl _)
    have n0 := v0.below hbX v0.lt
    have nK := vK.below hbX vK.lt
    have nD := thePF.after vD hbX
    have nf := vf.below hbX (by have := vcw.size; omega)
    have nc : Chg (fun q => q = g) w W3 := vcw.trans (Chg.of_below (S := fun q => q = g) hbX (Nat.le_refl _)) (fun _ _ h => h)
    have hglt3 : g < V.heap.size := vK.lt
    have hsW := hbW.size
    have hB0W : B0 < W3.heap.size := n0.lt
    have hbg : ∀ q, (Value.slice a1 1024 c1).ownBlock = some q → q ≠ g := fun q hq => by have := (ho1.blocks q hq).1; omega
    have hNg : Ni ≠ g := by omega
    have hBnW : V.heap.size ≤ Bn := by omega
    have xk0 : W3.heap[D0]? = some (.deferred (some [])) := by rw [hbX.block _ (Array.getElem?_eq_some_iff.1 hKD0).1]; exact hKD0
    clear hW3 hbX hb3 hbW ho1 kI2 hBn hsI vK vD vf vcw v0
    gi_wp2_with fail
    refine over_all (by decide) (gf := 58) (lb := #[.pointer (some ⟨Bn, 0, none⟩)]) rfl (enters_of Tryd.func58 (by kernel_rfl) rfl)
      (entries_brings Bn g a1 c1 b1 W3 hc1 hs3 hcell3 hseg3 hbg (by have := nc.size; omega) nf hgg (by omega) HBL.out) (fun _ => rfl)
      (fun pre V => Blk V g 71 (kpC L j (foldE 1 (seeB 0 (blkB s (j + 0)) k) pre)) ∧ Chg (fun q => q = g ∨ W3.heap.size ≤ q) W3 V)
      (fun pre A B row ⟨h1, h2⟩ hgr hr => ⟨h1.grown hgr (fun e => by have := (hr _ e.symm).1; omega), h2.trans (Chg.of_grown (S := fun q => q = g ∨ W3.heap.size ≤ q) hgr (fun k e => .inr (hr k e).1)) (fun _ _ h => h)⟩)
      ⟨nK, Chg.refl _ _⟩ (fun x => .cells (enL x.2.1 x.2.2) 65)
      (fun x N => { tmps := #[.pointer (some ⟨g, 0, none⟩), .pointer (some ⟨B0, 0, none⟩), .int .i64 0, .pointer (some ⟨Ni, 0, none⟩), .slice a1 1024 c1, .int .i64 0, .int .i64 (x.1 : Int), .pointer (some ⟨N, 0, none⟩), .int .i64 1, .bool true, .int .i64 1, .tuple #[.slice a1 1024 c1, .int .i64 0], .pointer (some ⟨g, 0, none⟩), .int .i64 1, .tuple #[.slice a1 1024 c1, .int .i64 0], .slice a1 1024 c1, .int .i64 0, .int .i64 0, .bool false, undef, .slice a1 1024 c1, .func (.func 58) #[] #[.pointer (some ⟨Bn, 0, none⟩)], .int .i64 (x.1 : Int), enV x.2.1 x.2.2, undef, undef, undef, undef, undef, undef, undef, undef, undef, undef, undef, undef, undef, undef, undef, undef, undef, undef, .int .i64 1], defers := [] }) ?assign1 ?body1 ?done1
    case assign1 =>
      rintro l ⟨xi, xg, xr⟩ W K hK
      dsimp only [encE, enV, enL] at hK ⊢
      gi_wp2
      exact hK
    case body1 =>
      rintro lab pre ⟨xi, xg, xr⟩ N V ⟨vK, vc⟩ hobj hNW
      dsimp only [enV, enL] at hobj ⊢
      have hN : Blk V N 65 #[.int .i64 (xg : Int), .int .i64 xr.active, .int .i64 xr.trial, .int .i64 xr.tries, .int .i64 xr.v0, .int .i64 xr.v1] := hobj
      have v0 := n0.chg vc (by show ¬ (B0 = g ∨ W3.heap.size ≤ B0); omega)
      have vI := kI3.chg vc (by show ¬ (Ni = g ∨ W3.heap.size ≤ Ni); have := kI3.lt; omega)
      have h0 := v0.cell (j := 0) rfl
      have h1 := vI.cell (j := 0) rfl
      have hNN : N ≠ g := by omega
      have HST : Hid (foldE 1 (seeB 0 (blkB s (j + 0)) k) (pre ++ [(xi, xg, xr)]) = stepE 1 (foldE 1 (seeB 0 (blkB s (j + 0)) k) pre) (xi, xg, xr)) := foldE_snoc 1 (seeB 0 (blkB s (j + 0)) k) pre (xi, xg, xr)
      generalize foldE 1 (seeB 0 (blkB s (j + 0)) k) (pre ++ [(xi, xg, xr)]) = KN at *
      generalize foldE 1 (seeB 0 (blkB s (j + 0)) k) pre = kk at *
      have HS2 : Hid (KN = if kk.gen < xg then ⟨xg, xr, 1, xi, kk.br⟩ else kk) := HST.out
      clear HST
      have hS0 : V.drew.cell? ⟨N, 0, none⟩ = some (.int .i64 (xg : Int)) ∧ V.drew.cell? ⟨B0, 0, none⟩ = some (.pointer (some ⟨g, 0, none⟩)) ∧ V.drew.cell? ⟨g, 2, none⟩ = some (.int .i64 (kk.gen : Int)) := ⟨hN.drew.cell (j := 0) rfl, h0, vK.drew.cell (j := 2) rfl⟩
      gi_wp2_with fail
      refine wpIn_mono (Q := fun e a' W' => e = .normal ∧ a' = { tmps := #[.pointer (some ⟨g, 0, none⟩), .pointer (some ⟨B0, 0, none⟩), .int .i64 0, .pointer (some ⟨Ni, 0, none⟩), .slice a1 1024 c1, .int .i64 0, .int .i64 (xi : Int), .pointer (some ⟨N, 0, none⟩), .int .i64 1, .bool true, .int .i64 1, .tuple #[.slice a1 1024 c1, .int .i64 0], .pointer (some ⟨g, 0, none⟩), .int .i64 1, .tuple #[.slice a1 1024 c1, .int .i64 0], .slice a1 1024 c1, .int .i64 0, .int .i64 0, .bool false, undef, .slice a1 1024 c1, .func (.func 58) #[] #[.pointer (some ⟨Bn, 0, none⟩)], .int .i64 (xi : Int), .agg #[.int .i64 (xg : Int), .int .i64 xr.active, .int .i64 xr.trial, .int .i64 xr.tries, .int .i64 xr.v0, .int .i64 xr.v1], .pointer (some ⟨N, 0, none⟩), .int .i64 (xg : Int), .pointer (some ⟨g, 0, none⟩), .pointer (some ⟨g, 0, none⟩), .pointer (some ⟨g, 2, none⟩), .pointer (some ⟨g, 2, none⟩), .int .i64 (kk.gen : Int), .bool (decide (kk.gen < xg)), undef, undef, undef, undef, undef, undef, undef, undef, undef, undef, .int .i64 1], defers := [] } ∧ W' = V.drew) ?_ ?_
      · refine held_round (fun V => V.cell? ⟨N, 0, none⟩ = some (.int .i64 (xg : Int)) ∧ V.cell? ⟨B0, 0, none⟩ = some (.pointer (some ⟨g, 0, none⟩)) ∧ V.cell? ⟨g, 2, none⟩ = some (.int .i64 (kk.gen : Int))) (by kernel_rfl) (by kernel_rfl) (fun ⟨_, _, h⟩ => by cases h.1) ?_
        refine held_take 0 24 _ (.pointer (some ⟨N, 0, none⟩)) rfl rfl (by kernel_rfl) (by kernel_rfl) (by kernel_rfl) rfl hS0 (fun _ _ => rfl) ?_
        simp only [Act.put, List.setIfInBounds_toArray, List.set_cons_succ, List.set_cons_zero]
        refine held_take 1 25 _ (.int .i64 (xg : Int)) rfl rfl (by kernel_rfl) (by kernel_rfl) (by kernel_rfl) rfl hS0 (fun V hV => exec_loadc 3 _ rfl _ _ rfl (load_one 3 (fun _ => by kernel_rfl) V _ _ _ hV.1)) ?_
        simp only [Act.put, List.setIfInBounds_toArray, List.set_cons_succ, List.set_cons_zero]
        refine held_take 2 26 _ (.pointer (some ⟨g, 0, none⟩)) rfl rfl (by kernel_rfl) (by kernel_rfl) (by kernel_rfl) rfl hS0 (fun V hV => exec_loadc 32 _ rfl _ _ rfl (load_one 32 (fun _ => by kernel_rfl) V _ _ _ hV.2.1)) ?_
        simp only [Act.put, List.setIfInBounds_toArray, List.set_cons_succ, List.set_cons_zero]
        refine held_take 3 27 _ (.pointer (some ⟨g, 0, none⟩)) rfl rfl (by kernel_rfl) (by kernel_rfl) (by kernel_rfl) rfl hS0 (fun _ _ => rfl) ?_
        simp only [Act.put, List.setIfInBounds_toArray, List.set_cons_succ, List.set_cons_zero]
        refine held_take 4 28 _ (.pointer (some ⟨g, 2, none⟩)) rfl rfl (by kernel_rfl) (by kernel_rfl) (by kernel_rfl) rfl hS0 (fun _ _ => rfl) ?_
        simp only [Act.put, List.setIfInBounds_toArray, List.set_cons_succ, List.set_cons_zero]
        refine held_take 5 29 _ (.pointer (some ⟨g, 2, none⟩)) rfl rfl (by kernel_rfl) (by kernel_rfl) (by kernel_rfl) rfl hS0 (fun _ _ => rfl) ?_
        simp only [Act.put, List.setIfInBounds_toArray, List.set_cons_succ, List.set_cons_zero]
        refine held_take 6 30 _ (.int .i64 (kk.gen : Int)) rfl rfl (by kernel_rfl) (by kernel_rfl) (by kernel_rfl) rfl hS0 (fun V hV => exec_loadc 3 _ rfl _ _ rfl (load_one 3 (fun _ => by kernel_rfl) V _ _ _ hV.2.2)) ?_
        simp only [Act.put, List.setIfInBounds_toArray, List.set_cons_succ, List.set_cons_zero]
        refine held_take 7 31 _ (.bool (decide (kk.gen < xg))) rfl rfl (by kernel_rfl) (by kernel_rfl) (by kernel_rfl) rfl hS0 (fun V _ => exec_gtr7 3 _ _ rfl (xg : Int) (kk.gen : Int) _ rfl rfl (decide_eq_decide.2 Int.ofNat_lt)) ?_
        simp only [Act.put, List.setIfInBounds_toArray, List.set_cons_succ, List.set_cons_zero]
        refine wpAnyH_done (by kernel_rfl) ?_ _
        refine NoPanic.normal ?_
        exact ⟨rfl, rfl, rfl⟩
      rintro e a2 W2 ⟨rfl, rfl, rfl⟩
      by_cases hlt : kk.gen < xg
      · rw [if_pos hlt] at HS2
        rw [decide_eq_true hlt]
        have HCL : Hid (∀ V', Chg (fun q => q = g) V.drew.drew V' → V'.cell? ⟨B0, 0, none⟩ = some (.pointer (some ⟨g, 0, none⟩)) ∧ V'.cell? ⟨Ni, 0, none⟩ = some (.int .i64 1) ∧ V'.rangeAt N 0 [.int .i64 (xg : Int), .int .i64 xr.active, .int .i64 xr.trial, .int .i64 xr.tries, .int .i64 xr.v0, .int .i64 xr.v1]) := fun V' hc => ⟨(v0.drew.drew.chg hc hBg).cell (j := 0) rfl, (vI.drew.drew.chg hc hNg).cell (j := 0) rfl, (hN.drew.drew.chg hc hNN).range'⟩
        have hS2 := HCL.out V.drew.drew (Chg.refl _ _)
        clear hS0 h0 h1
        gi_wp2_with fail
        refine wpIn_mono (Q := fun e a' W' => e = .normal ∧ Blk W' g 71 (kpC L j ⟨xg, xr, 1, xi, kk.br⟩) ∧ Chg (fun q => q = g) V W') ?_ ?_
        · refine held_round (fun V => V.cell? ⟨B0, 0, none⟩ = some (.pointer (some ⟨g, 0, none⟩)) ∧ V.cell? ⟨Ni, 0, none⟩ = some (.int .i64 1) ∧ V.rangeAt N 0 [.int .i64 (xg : Int), .int .i64 xr.active, .int .i64 xr.trial, .int .i64 xr.tries, .int .i64 xr.v0, .int .i64 xr.v1]) (by kernel_rfl) (by kernel_rfl) (fun ⟨_, _, h⟩ => by cases h.1) ?_
          refine held_take 0 32 _ (.pointer (some ⟨g, 0, none⟩)) rfl rfl (by kernel_rfl) (by kernel_rfl) (by kernel_rfl) rfl hS2 (fun V hV => exec_loadc 32 _ rfl _ _ rfl (load_one 32 (fun _ => by kernel_rfl) V _ _ _ hV.1)) ?_
          simp only [Act.put, List.setIfInBounds_toArray, List.set_cons_succ, List.set_cons_zero]
          refine held_take 1 33 _ (.pointer (some ⟨g, 0, none⟩)) rfl rfl (by kernel_rfl) (by kernel_rfl) (by kernel_rfl) rfl hS2 (fun V hV => exec_loadc 32 _ rfl _ _ rfl (load_one 32 (fun _ => by kernel_rfl) V _ _ _ hV.1)) ?_
          simp only [Act.put, List.setIfInBounds_toArray, List.set_cons_succ, List.set_cons_zero]
          refine held_take 2 34 _ (.agg #[.int .i64 (xg : Int), .int .i64 xr.active, .int .i64 xr.trial, .int .i64 xr.tries, .int .i64 xr.v0, .int .i64 xr.v1]) rfl rfl (by kernel_rfl) (by kernel_rfl) (by kernel_rfl) rfl hS2 (fun V hV => exec_loads 65 _ rfl N 0 rfl [.int .i64 (xg : Int), .int .i64 xr.active, .int .i64 xr.trial, .int .i64 xr.tries, .int .i64 xr.v0, .int .i64 xr.v1] _ hV.2.2 Tryd.underlying65 rfl info_ent9) ?_
          simp only [Act.put, List.setIfInBounds_toArray, List.set_cons_succ, List.set_cons_zero]
          refine held_take 3 35 _ (.int .i64 1) rfl rfl (by kernel_rfl) (by kernel_rfl) (by kernel_rfl) rfl hS2 (fun V hV => exec_loadc 3 _ rfl _ _ rfl (load_one 3 (fun _ => by kernel_rfl) V _ _ _ hV.2.1)) ?_
          simp only [Act.put, List.setIfInBounds_toArray, List.set_cons_succ, List.set_cons_zero]
          refine held_take 4 36 _ (.int .i64 (xi : Int)) rfl rfl (by kernel_rfl) (by kernel_rfl) (by kernel_rfl) rfl hS2 (fun _ _ => rfl) ?_
          simp only [Act.put, List.setIfInBounds_toArray, List.set_cons_succ, List.set_cons_zero]
          refine held_take 5 37 _ (.agg #[.int .i64 1, .int .i64 (xi : Int)]) rfl rfl (by kernel_rfl) (by kernel_rfl) (by kernel_rfl) rfl hS2 (fun _ _ => by kernel_rfl) ?_
          simp only [Act.put, List.setIfInBounds_toArray, List.set_cons_succ, List.set_cons_zero]
          refine held_take 6 38 _ (.pointer (some ⟨g, 0, none⟩)) rfl rfl (by kernel_rfl) (by kernel_rfl) (by kernel_rfl) rfl hS2 (fun _ _ => rfl) ?_
          simp only [Act.put, List.setIfInBounds_toArray, List.set_cons_succ, List.set_cons_zero]
          refine held_take 7 39 _ (.pointer (some ⟨g, 2, none⟩)) rfl rfl (by kernel_rfl) (by kernel_rfl) (by kernel_rfl) rfl hS2 (fun _ _ => rfl) ?_
          simp only [Act.put, List.setIfInBounds_toArray, List.set_cons_succ, List.set_cons_zero]
          refine held_all1 8 (by kernel_rfl) (op_mid9 8 _ rfl rfl rfl 65 _ _ rfl g 2 #[.int .i64 (xg : Int), .int .i64 xr.active, .int .i64 xr.trial, .int .i64 xr.tries, .int .i64 xr.v0, .int .i64 xr.v1] rfl rfl 71 _ #[.pointer (some ⟨L.g, 0, none⟩), .int .i64 (j : Int), .int .i64 (xg : Int), .int .i64 xr.active, .int .i64 xr.trial, .int .i64 xr.tries, .int .i64 xr.v0, .int .i64 xr.v1, .int .i64 (kk.wh : Int), .int .i64 kk.la, .bool kk.br] vK.drew.drew info_ent9 (by show 8 ≤ 11; decide) (by simp [Value.oneCell']) (by simp [kpC, splice]) ?_)
          intro W8 hb8 hg8
          have hc8 : Chg (fun q => q = g) V.drew.drew W8 := Chg.of_grown hg8 (fun k e => by cases e; rfl)
          have hS8 := HCL.out W8 hc8
          refine ⟨hS8, ?_⟩
          refine held_take 9 40 _ (.pointer (some ⟨g, 0, none⟩)) rfl rfl (by kernel_rfl) (by kernel_rfl) (by kernel_rfl) rfl hS8 (fun _ _ => rfl) ?_
          simp only [Act.put, List.setIfInBounds_toArray, List.set_cons_succ, List.set_cons_zero]
          refine held_take 10 41 _ (.pointer (some ⟨g, 8, none⟩)) rfl rfl (by kernel_rfl) (by kernel_rfl) (by kernel_rfl) rfl hS8 (fun _ _ => rfl) ?_
          simp only [Act.put, List.setIfInBounds_toArray, List.set_cons_succ, List.set_cons_zero]
          refine held_all1 11 (by kernel_rfl) (op_mid9 11 _ rfl rfl rfl 68 _ _ rfl g 8 #[.int .i64 1, .int .i64 (xi : Int)] rfl rfl 71 _ (kpC L j ⟨xg, xr, 1, xi, kk.br⟩) hb8 info_place9 (by show 10 ≤ 11; decide) (by simp [Value.oneCell']) (by simp [kpC, splice]) ?_)
          intro W9 hb9 hg9
          have hc9 : Chg (fun q => q = g) V.drew.drew W9 := hc8.trans (Chg.of_grown (S := fun q => q = g) hg9 (fun k e => by cases e; rfl)) (fun _ _ h => h)
          refine ⟨HCL.out W9 hc9, ?_⟩
          refine wpAnyH_done (by kernel_rfl) ?_ _
          refine NoPanic.normal ?_
          exact ⟨rfl, hb9, (((Chg.refl (fun q => q = g) V).drew).drew).trans hc9 (fun _ _ h => h)⟩
        rintro e a3 W9 ⟨rfl, hb9, hc9⟩
        gi_wp2
        refine ⟨keeps_chg9 _ hc9 (fun k hk o ho => by subst hk; exact blk_isCells9 vK o ho), ?_, vc.trans hc9 (fun _ _ h => .inl h)⟩
        rw [HS2.out]
        exact hb9
      · rw [if_neg hlt] at HS2
        rw [decide_eq_false hlt]
        clear hS0 h0 h1
        gi_wp2
        refine ⟨keeps_chg9 (S := fun _ => False) _ ((Chg.refl _ V).drew) (fun _ h => h.elim), (Chg.refl _ V).drew, ?_, vc.drew⟩
        rw [HS2.out]
        exact vK.drew
    case done1 =>
      rintro D1 ys V hD1 rfl ⟨vK, vc⟩ hKD1
      rw [seeB_is, HB1.out] at vK
      have v0 := n0.chg vc (by show ¬ (B0 = g ∨ W3.heap.size ≤ B0); omega)
      have vD := nD.chg vc (fun q hq e => by rcases e with rfl | e; exact hgT hq; have := nD.lt q hq; omega)
      have vf := nf.chg vc (by have := nc.size; omega) (by have := nc.size; show ¬ (1 = g ∨ W3.heap.size ≤ 1); omega)
      have vcw : Chg (fun q => q = g) w V := nc.trans vc (fun q hq e => by rcases e with e | e; exact e; have := nc.size; omega)
      have yk0 : V.heap[D0]? = some (.deferred (some [])) := by rw [vc.2 D0 (Array.getElem?_eq_some_iff.1 xk0).1 (fun e => by rcases e with e | e; (rw [e, show W3.heap[g]? = _ from nK] at xk0; cases xk0); (have := (Array.getElem?_eq_some_iff.1 xk0).1; omega))]; exact xk0
      gi_wp2_with fail
      rw [roundsIn_succ]
      gi_wp2
      (try simp only [Exit.noGoto])
      have hD10 : D0 ≠ D1 := fun e => by subst e; have := (Array.getElem?_eq_some_iff.1 xk0).1; omega
      have hc5 : Chg (fun q => q = D1) V (V.putObj D1 (.deferred none)) := Chg.of_grown (grownBy_putObj' _ D1 (.deferred none)) (fun k e => by cases e; rfl)
      have hk5 : (V.putObj D1 (.deferred none)).heap[D0]? = some (.deferred (some [])) := by rw [hc5.2 D0 (Array.getElem?_eq_some_iff.1 yk0).1 hD10]; exact yk0
      have hc6 : Chg (fun q => q = D0) (V.putObj D1 (.deferred none)) ((V.putObj D1 (.deferred none)).putObj D0 (.deferred none)) := Chg.of_grown (grownBy_putObj' _ D0 (.deferred none)) (fun k e => by cases e; rfl)
      refine ⟨by simp, .inl ⟨_, _, rfl, run_takeDeferred hKD1, ?_⟩⟩
      refine ⟨by simp, .inl ⟨_, _, rfl, run_takeDeferred hk5, ?_⟩⟩
      refine ⟨_, results_tmp rfl _ _ _, ?_, by rw [HKR2.out]; exact (vK.chg hc5 (by omega)).chg hc6 (by omega), ?_⟩
      · rw [HL0.out]; rfl
      · exact (vcw.trans hc5 (fun q hq e => by have := nc.size; omega)).trans hc6 (fun q hq e => by omega)
end Go.Proofs.YtbdhkkdombdnkaaDoor
