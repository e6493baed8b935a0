/-
  What is proved here: the small thing that the statements on wire ask first is so; the document's Same of packets.
  Conditions: what comes in lies in memory.
-/
import Derived.Test.YtpebjocmnojldaaDoorJWireEnc
import Derived.Test.YtpebjocmnojldaaDoorJWireWrap
namespace Go.Proofs.YtpebjocmnojldaaDoor
open Go.RowKit

def awkM : MS := ⟨7, 0, 0, 0, 0, 7, 0, 0, ⟨0, 0, 0, List.replicate 32 0, []⟩, []⟩
theorem awk_enc : encW awkM [] = some [7, 6, 0, 0, 0] := by decide +kernel
set_option maxRecDepth 100000 in
set_option maxHeartbeats 4000000 in
theorem awake14_any (w : World) : Calls Tryd.prog 6 #[] w fun e w' => e = .returned (.bool true) ∧ Below w.heap.size w w' := by
  have H := wencode_any awkM (manL ⟨0, 0, 0, List.replicate 32 0, []⟩ (.slice none 0 0)) none 0 [] w rfl (seg_nil _) (Nat.zero_le _) (fun h => by cases h) (fun V _ => manMay_other awkM none 0 (.slice none 0 0) V rfl (by decide)) (fun h => by cases h)
  rw [awk_enc] at H
  have H : Hid (Calls Tryd.prog 13 #[.agg #[.int .i64 7, .int .i64 0, .int .i64 0, .int .i64 0, .int .i64 0, .int .i64 7, .int .i64 0, .int .i64 0, .int .i64 0, .int .i64 0, .int .i64 0, .int .u8 0, .int .u8 0, .int .u8 0, .int .u8 0, .int .u8 0, .int .u8 0, .int .u8 0, .int .u8 0, .int .u8 0, .int .u8 0, .int .u8 0, .int .u8 0, .int .u8 0, .int .u8 0, .int .u8 0, .int .u8 0, .int .u8 0, .int .u8 0, .int .u8 0, .int .u8 0, .int .u8 0, .int .u8 0, .int .u8 0, .int .u8 0, .int .u8 0, .int .u8 0, .int .u8 0, .int .u8 0, .int .u8 0, .int .u8 0, .int .u8 0, .int .u8 0, .slice none 0 0, .slice none 0 0]] w fun e w' => (∃ b, e = .returned (.tuple #[b, .int .i64 0]) ∧ Own w' w.heap.size b [7, 6, 0, 0, 0]) ∧ Below w.heap.size w w') := H
  go_enter Tryd.func6, Tryd.ntmps6
  go_wp2_with fail
  refine H.out.mono ?_
  rintro e w1 ⟨⟨b, rfl, ho⟩, hb1⟩
  obtain ⟨a1, c1, e1⟩ := ho.seg.shapeD
  subst e1
  have hc : (convert 23 9 (.slice a1 5 c1)).run Tryd.prog w1 = .ok (.string ⟨#[7, 6, 0, 0, 0]⟩) w1 := seg_stringD ho.seg 9 Tryd.underlying9
  clear H ho
  go_wp2
  go_ret
  exact ⟨rfl, hb1⟩
def eqP (p q : KP) : Bool := (p.k == q.k) && ((p.f == q.f) && ((p.t == q.t) && ((p.s == q.s) && ((p.a == q.a) && decide (p.b = q.b)))))
theorem eqP_iff (p q : KP) : eqP p q = true ↔ p = q := by
  obtain ⟨a, b, c, d, e, f⟩ := p
  obtain ⟨a', b', c', d', e', f'⟩ := q
  unfold eqP
  simp only [KP.mk.injEq]
  simp
theorem eqP_self (p : KP) : eqP p p = true := (eqP_iff p p).2 rfl
set_option maxRecDepth 100000 in
set_option maxHeartbeats 4000000 in
theorem same13_any (p q : KP) (ax ay : Option Addr) (cx cy : Nat) (w : World) (hx : Seg w (.slice ax p.b.length cx) p.b) (hy : Seg w (.slice ay q.b.length cy) q.b) :
    Calls Tryd.prog 11 #[kpV p (.slice ax p.b.length cx), kpV q (.slice ay q.b.length cy)] w fun e w' => e = .returned (.bool (eqP p q)) ∧ Below w.heap.size w w' := by
  unfold kpV kpL eqP
  have hB2 : Below w.heap.size w ((w.alloc (.cells #[.int .i64 p.k, .int .i64 p.f, .int .i64 p.t, .int .i64 p.s, .int .i64 p.a, .slice ax p.b.length cx] 25)).alloc (.cells #[.int .i64 q.k, .int .i64 q.f, .int .i64 q.t, .int .i64 q.s, .int .i64 q.a, .slice ay q.b.length cy] 25)) := ((Below.refl w.heap.size w).alloc (Nat.le_refl _) _).alloc (by simp) _
  have k5 := seg_stringD (hx.below hB2 (Nat.le_refl _)) 9 Tryd.underlying9
  have k6 := seg_stringD (hy.below hB2 (Nat.le_refl _)) 9 Tryd.underlying9
  have hq := str_beq p.b q.b
  generalize (⟨p.b.toArray⟩ : ByteArray) = BX at *
  generalize (⟨q.b.toArray⟩ : ByteArray) = BY at *
  generalize decide (p.b = q.b) = b6 at *
  clear hx hy
  cases h0 : (p.k == q.k) with
  | false =>
    clear hq k5 k6
    go_enter Tryd.func11, Tryd.ntmps11
    go_wp2
    go_ret
    exact ⟨rfl, hB2⟩
  | true =>
    cases h1 : (p.f == q.f) with
    | false =>
      clear hq k5 k6
      go_enter Tryd.func11, Tryd.ntmps11
      go_wp2
      go_ret
      exact ⟨rfl, hB2⟩
    | true =>
      cases h2 : (p.t == q.t) with
      | false =>
        clear hq k5 k6
        go_enter Tryd.func11, Tryd.ntmps11
        go_wp2
        go_ret
        exact ⟨rfl, hB2⟩
      | true =>
        cases h3 : (p.s == q.s) with
        | false =>
          clear hq k5 k6
          go_enter Tryd.func11, Tryd.ntmps11
          go_wp2
          go_ret
          exact ⟨rfl, hB2⟩
        | true =>
          cases h4 : (p.a == q.a) with
          | false =>
            clear hq k5 k6
            go_enter Tryd.func11, Tryd.ntmps11
            go_wp2
            go_ret
            exact ⟨rfl, hB2⟩
          | true =>
            cases b6 with
            | false =>
              have hq' : (BX.toList == BY.toList) = false := hq
              clear hq
              go_enter Tryd.func11, Tryd.ntmps11
              go_wp2
              go_ret
              exact ⟨rfl, hB2⟩
            | true =>
              have hq' : (BX.toList == BY.toList) = true := hq
              clear hq
              go_enter Tryd.func11, Tryd.ntmps11
              go_wp2
              go_ret
              exact ⟨rfl, hB2⟩
end Go.Proofs.YtpebjocmnojldaaDoor
