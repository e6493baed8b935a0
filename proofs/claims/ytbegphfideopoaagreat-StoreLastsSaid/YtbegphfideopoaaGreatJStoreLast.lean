/-
  What is proved here: a store that is opened behind a crash; steps in memory; pairs in memory that lie off the store's own blocks.
  Conditions: those that each fact names.
-/
import Derived.Test.YtbegphfideopoaaGreatJStoreAgain
import Derived.Test.YtbegphfideopoaaGreatJStoreSound
import Derived.Test.YtbegphfideopoaaGreatJStoreAwake
import Derived.Test.YtbegphfideopoaaGreatJLawStoreAtOnce
import Derived.Test.YtbegphfideopoaaGreatJBoolsIn8
namespace Go.Proofs.YtbegphfideopoaaGreat
open Go.RowKit Go.Maps

/-- What is found behind a crash is opened. -/
theorem fresh_open {c : DS} {n0 g : Nat} {m : PM} (h : Fresh8 c n0 g m) (hm : n0 ≤ 4096) (h256 : 256 ≤ sizeS c) (hg : g ≤ 100000) (hms : sizeM m ≤ 1000000) : ∃ y : SS, SoundS y n0 (g + 1) ∧ y.m = m ∧ sizeS y.s = sizeS c ∧ ∀ (w : World) (L : PLay) (C : Nat → Prop), OD w L C c → Calls Tryz.prog 12 #[.pointer (some ⟨L.g, 0, none⟩)] w fun e w' => Opened w L C y e w' := by
  obtain ⟨m0, css, f1, f2, f3, f4, f5, f6, f7⟩ := h.base
  have hgn := h.gen
  have hnn := h.n
  have hfit := h.fits
  have hmost : mostW c = (sizeS c - 2048) / 2 := rfl
  have hst : (stateB (stateM m)).length ≤ sizeS c := by
    rw [stateB_len, stateM_len]
    omega
  have hop : openE c = 0 := by
    unfold openE
    rw [if_neg (by omega), h.calm.2]
    rfl
  have hRO : ReplayOk (foundS c).1 (foundS c).2 m := by
    rw [f1, f2]
    exact replay_any m0 css f3 f4 f5 f6 f7 (by rw [← f2]; exact h.len)
  obtain ⟨N, hN⟩ : ∃ N, (thereS c).1 = N := ⟨_, rfl⟩
  obtain ⟨G, hG⟩ : ∃ G, (thereS c).2.1 = G := ⟨_, rfl⟩
  have hol : openL c = ⟨N, G, [], 0, false, false⟩ := by
    unfold openL
    rw [hN, hG]
  have htw := h.tw
  rw [hN] at htw hnn
  rw [hG] at hgn
  have hn1 : N < 1073741824 := by omega
  have hn2 : G < 1048576 := by omega
  obtain ⟨t, ht, hS, hz⟩ := check_sound (l := ⟨N, G, [], 0, false, false⟩) (st := stateM m) h.calm h.ok hm h256 rfl hN hn1 hn2 hst htw
  have hmw : mostW t = mostW c := by unfold mostW; rw [hz]
  refine ⟨⟨t, _, m, false⟩, ⟨hS, rfl, by show sizeM m ≤ mostW t; rw [hmw]; exact hfit, h.len, rfl, (by show G + 1 ≤ g + 1; omega), (by show N + 1 ≤ 2 * (g + 1); omega), BaseB.state h.rise h.pairs h.len, h.rise, h.pairs⟩, rfl, hz, fun w L C hD => ?_⟩
  exact open_any8 hD hop (m := m) hRO h.pairs h.len hms (by rw [hol]; exact ht)
theorem new_fresh (n : Nat) (h2 : 2 ≤ n) : Fresh8 (newS n) n 0 [] :=
  ⟨newS_calm n, newS_ok n, by rw [newS_there]; exact newS_twin n h2, by rw [newS_there]; exact Nat.le_refl _, by rw [newS_there]; exact Nat.le_refl _, Nat.zero_le _, Nat.zero_le _, List.Pairwise.nil, (fun p hp => by cases hp), ⟨[], [], by rw [newS_found]; rfl, rfl, List.Pairwise.nil, (fun p hp => by cases hp), Nat.zero_le _, rfl, Nat.zero_le _⟩⟩
/-! ### steps -/
structure St8 where
  act : Int
  cs : List (List OpB)
  k : Int
  n : Int
  b : List UInt8
  stay : List Bool
def stL8 (a : St8) (u bv sv : Value) : List Value := [.int .i64 a.act, u, .int .i64 a.k, .int .i64 a.n, bv, sv]
structure At8 (w : World) (u bv sv : Value) (a : St8) : Prop where
  cs : ChgsV w u a.cs
  b : Seg w bv a.b
  stay : BoolsIn8 w sv a.stay
def Steps8 (w : World) (v : Value) (l : List St8) : Prop := ∃ ao c, v = .slice ao l.length c ∧ l.length ≤ maxLen ∧ ∀ (i : Nat) a, l[i]? = some a → ∃ q off u bv sv, ao = some ⟨q, off, none⟩ ∧ q < w.heap.size ∧ (∀ (j : Nat) x, (stL8 a u bv sv)[j]? = some x → w.cell? ⟨q, off + i * 6 + j, none⟩ = some x) ∧ At8 w u bv sv a
def St8.q (a : St8) : StepQ := ⟨a.cs, a.b.length, a.stay.length⟩
theorem Steps8.toQ {w : World} {v : Value} {l : List St8} (h : Steps8 w v l) : StepsV w v (l.map St8.q) := by
  obtain ⟨ao, c, rfl, hm, hat⟩ := h
  refine ⟨ao, c, by rw [List.length_map], by rw [List.length_map]; exact hm, fun i s hs => ?_⟩
  rw [List.getElem?_map, Option.map_eq_some_iff] at hs
  obtain ⟨a, ha, rfl⟩ := hs
  obtain ⟨q, off, u, bv, sv, rfl, _, hc, hA⟩ := hat i a ha
  refine ⟨q, off, rfl, ⟨u, hc 1 _ rfl, hA.cs⟩, ?_, ?_⟩
  · obtain ⟨ab, cb, rfl⟩ := Seg.shapeD hA.b
    exact ⟨ab, cb, hc 4 _ rfl⟩
  · obtain ⟨ab, cb, rfl, _⟩ := hA.stay
    exact ⟨ab, cb, hc 5 _ rfl⟩
/-! ### pairs off the store -/
def SegO (w : World) (X : Nat → Prop) (v : Value) (bs : List UInt8) : Prop := Seg w v bs ∧ (0 < bs.length → ∀ q, v.ownBlock = some q → ¬ X q)
structure PairsO (W : World) (X : Nat → Prop) (v : Value) (l : PM) : Prop where
  ps : PairsG (SegO W X) W v l
  off : ∀ q, v.ownBlock = some q → ¬ X q ∧ q < W.heap.size
theorem PairsO.sl {W : World} {X : Nat → Prop} {v : Value} {l : PM} (h : PairsO W X v l) : ∃ ao c, v = .slice ao l.length c := by
  obtain ⟨ao, c, rfl, _⟩ := h.ps
  exact ⟨ao, c, rfl⟩
theorem seg_ltO {w : World} {v : Value} {bs : List UInt8} (h : Seg w v bs) (h0 : 0 < bs.length) (q : Nat) (hq : v.ownBlock = some q) : q < w.heap.size := by
  obtain ⟨ab, cb, rfl⟩ := Seg.shapeD h
  obtain ⟨qb, qo, rfl, _, _, hlt⟩ := h.formD h0
  cases hq
  exact hlt
theorem PairsO.chg {W W' : World} {X X' S : Nat → Prop} {v : Value} {l : PM} (h : PairsO W X v l) (hc : Chg S W W') (hS : ∀ q, S q → X q) (hX : ∀ q, q < W.heap.size → X' q → X q) : PairsO W' X' v l := by
  obtain ⟨ao, c, rfl, h1⟩ := h.ps
  have hO : ∀ u bs, SegO W X u bs → SegO W' X' u bs := fun u bs ⟨a, b⟩ => ⟨a.chg hc (fun h0 q hq e => b h0 q hq (hS q e)), fun h0 q hq e => b h0 q hq (hX q (seg_ltO a h0 q hq) e)⟩
  refine ⟨⟨ao, c, rfl, fun i p hp => ?_⟩, fun q hq => ?_⟩
  · obtain ⟨b, ka, kc, va, vc, rfl, e1, e2, e3, e4, e5⟩ := h1 i p hp
    have hb := hc.2 b e5 (fun e => (h.off b rfl).1 (hS b e))
    exact ⟨b, ka, kc, va, vc, rfl, (World.cell?_of_block (w := W) (a := ⟨b, i * 2, none⟩) hb).trans e1, (World.cell?_of_block (w := W) (a := ⟨b, i * 2 + 1, none⟩) hb).trans e2, hO _ _ e3, hO _ _ e4, Nat.lt_of_lt_of_le e5 hc.size⟩
  · obtain ⟨k1, k2⟩ := h.off q hq
    exact ⟨fun e => k1 (hX q k2 e), Nat.lt_of_lt_of_le k2 hc.size⟩
theorem PairsO.after {W W' : World} {X : Nat → Prop} {v : Value} {l : PM} (h : PairsO W X v l) (hb : Below W.heap.size W W') : PairsO W' X v l := h.chg (S := fun _ => False) (Chg.of_below hb (Nat.le_refl _)) (fun _ e => e.elim) (fun _ _ e => e)
theorem PairsO.step {W W' : World} {X : Nat → Prop} {v : Value} {l : PM} (h : PairsO W X v l) (hc : Chg X W W') : PairsO W' (Fr X W W') v l := h.chg hc (fun _ e => e) (fun q hq e => by
  rcases e with e | e
  · exact e
  · omega)
theorem PairsO.nil (W : World) (X : Nat → Prop) : PairsO W X (.slice none 0 0) [] := ⟨⟨none, 0, rfl, fun i p h => by simp at h⟩, fun _ h => by cases h⟩
theorem PairsO.read {W : World} {X : Nat → Prop} {v : Value} {l : PM} (h : PairsO W X v l) : PairsIn W v l := by
  obtain ⟨ao, c, rfl, h1⟩ := h.ps
  refine ⟨ao, c, rfl, fun i p hp => ?_⟩
  obtain ⟨b, ka, kc, va, vc, e0, e1, e2, e3, e4, e5⟩ := h1 i p hp
  rw [Nat.mul_comm] at e1 e2
  exact ⟨b, ka, kc, va, vc, e0, e1, e2, e3.1, e4.1, e5⟩
/-- What Range tells lies off the store. -/
theorem Pairs8.off {W : World} {base : Nat} {X : Nat → Prop} {v : Value} {cells : List Value} {l : PM} (h : Pairs8 W base v cells l) (hX : ∀ q, X q → q < base) : PairsO W X v l := by
  obtain ⟨ao, c, rfl⟩ := h.sl
  refine ⟨⟨ao, c, rfl, fun i p hp => ?_⟩, fun q hq => ?_⟩
  · have hi : i < l.length := (List.getElem?_eq_some_iff.1 hp).1
    obtain ⟨ka, kc, va, vc, e1, e2, e3, e4⟩ := h.rows i p hp
    obtain ⟨g, cap, he, hb, hl⟩ := World.ownsRow.form h.own (by omega)
    cases he
    have hc : ∀ (j : Nat) u, cells[j]? = some u → W.cell? ⟨g, j, none⟩ = some u := fun j u hu => by
      have := World.ownsRow.cells h.own (g := g) rfl j u hu
      rwa [Addr.add_mid, Nat.zero_add] at this
    rw [Nat.mul_comm] at e1 e2
    exact ⟨g, ka, kc, va, vc, rfl, hc _ _ e1, hc _ _ e2, ⟨e3.1, fun h0 q hq e => by have := (e3.2 h0 q hq).1; have := hX q e; omega⟩, ⟨e4.1, fun h0 q hq e => by have := (e4.2 h0 q hq).1; have := hX q e; omega⟩, hl⟩
  · have := World.ownsRow.lt h.own q hq
    exact ⟨fun e => by have := hX q e; omega, this.2⟩
/-- Do over pairs that lie off the store, with ops that came in. -/
theorem do8_off {wI w : World} {X : Nat → Prop} {x : Value} {m : PM} {v : Value} {ops : List OpB} (hx : PairsO w X x m) (hv : OpsV wI v ops) (hB0 : Below wI.heap.size wI w) (hXI : ∀ q, X q → wI.heap.size ≤ q) (hXl : ∀ q, X q → q < w.heap.size) (hr : RiseM m) (hlm : m.length + ops.length ≤ 1000000) :
    Calls Tryz.prog 15 #[x, v] w fun e w' => ∃ u, e = .returned u ∧ PairsO w' X u (doM m ops) ∧ Below w.heap.size w w' := by
  refine (do8_gen (SegO w X) wI x m v ops w hx.ps hv hB0 (fun _ _ h V hV => h.1.below hV (Nat.le_refl _)) (fun u bs h => ⟨h.below hB0 (Nat.le_refl _), fun h0 q hq e => by have := seg_ltO h h0 q hq; have := hXI q e; omega⟩) hr hlm).mono ?_
  rintro e w' ⟨u, rfl, hP, hb, hu⟩
  refine ⟨u, rfl, ?_, hb⟩
  obtain ⟨ao, c, rfl, h1⟩ := hP
  refine ⟨⟨ao, c, rfl, fun i p hp => ?_⟩, fun q hq => ?_⟩
  · obtain ⟨b, ka, kc, va, vc, e0, e1, e2, e3, e4, e5⟩ := h1 i p hp
    exact ⟨b, ka, kc, va, vc, e0, e1, e2, ⟨e3.1.below hb (Nat.le_refl _), e3.2⟩, ⟨e4.1.below hb (Nat.le_refl _), e4.2⟩, e5⟩
  · rcases hu q hq with h2 | h2
    · exact ⟨(hx.off q h2).1, Nat.lt_of_lt_of_le (hx.off q h2).2 hb.size⟩
    · exact ⟨fun e => by have := hXl q e; omega, h2.2⟩
end Go.Proofs.YtbegphfideopoaaGreat
