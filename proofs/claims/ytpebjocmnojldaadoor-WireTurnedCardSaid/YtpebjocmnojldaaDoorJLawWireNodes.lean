/-
  What is proved here: the statement WireNodes is true of any nodes and any packet.
  Conditions: they lie in memory; the variable fourBits holds the sixteen words.
-/
import Derived.Test.YtpebjocmnojldaaDoorJWireAwake
namespace Go.Proofs.YtpebjocmnojldaaDoor
open Go.RowKit

/-- What Unwrap answers of a Wrap. -/
theorem unwPost_yes {w w' : World} {b : List UInt8} {e : Ending} {f t : Int} {p : KP} (h : unwPost w b e w') (hw : wrapO f t p = some b) : ∃ ab cb, e = .returned (.tuple #[.int .i64 f, .int .i64 t, kpV p (.slice ab p.b.length cb), .int .i64 0]) ∧ Seg w' (.slice ab p.b.length cb) p.b ∧ Below w.heap.size w w' := by
  obtain ⟨d, ab, cb, er, rfl, hs, _, ho, hb⟩ := h
  rcases ho with ⟨rfl, ho⟩ | ⟨_, _, ho⟩
  · have e := unw_wrap hw ho
    cases e
    exact ⟨ab, cb, rfl, hs, hb⟩
  · have e := unw_wrap hw ho
    cases e
set_option maxRecDepth 100000 in
set_option maxHeartbeats 8000000 in
theorem wireNodes_any (f t : Int) (p : KP) (ax : Option Addr) (cx : Nat) (w : World) (hS : Seg w (.slice ax p.b.length cx) p.b) (hm : p.b.length ≤ maxLen) (hgf : 0 < w.heap.size) (hf : Tab w 0 (fours.map v32)) :
    Calls Tryd.prog 5 #[.int .i64 f, .int .i64 t, kpV p (.slice ax p.b.length cx)] w fun e w' => e = .returned (.bool true) ∧ Below w.heap.size w w' := by
  have hB0 := (Below.refl w.heap.size w).alloc (Nat.le_refl _) (.cells #[.int .i64 p.k, .int .i64 p.f, .int .i64 p.t, .int .i64 p.s, .int .i64 p.a, .slice ax p.b.length cx] 25)
  have kB0 := Blk.new w 25 #[.int .i64 p.k, .int .i64 p.f, .int .i64 p.t, .int .i64 p.s, .int .i64 p.a, .slice ax p.b.length cx]
  have HRT : Hid (∀ V, Calls Tryd.prog 12 #[.agg #[.int .i64 p.k, .int .i64 p.f, .int .i64 p.t, .int .i64 p.s, .int .i64 p.a, .slice ax p.b.length cx]] V fun e w' => e = .returned (.bool (rightK p)) ∧ Below V.heap.size V w') := fun V => rightK_any p ax cx V
  have HWR : Hid (∀ V, Below w.heap.size w V → Calls Tryd.prog 7 #[.int .i64 f, .int .i64 t, .agg #[.int .i64 p.k, .int .i64 p.f, .int .i64 p.t, .int .i64 p.s, .int .i64 p.a, .slice ax p.b.length cx]] V fun e w' => encodePost V (wrapO f t p) e w') := fun V hV => wrap_any f t p ax cx V (hS.below hV (Nat.le_refl _)) hm (Nat.lt_of_lt_of_le hgf hV.size) (hf.below hV hgf)
  have HUN : Hid (∀ V x b, Below w.heap.size w V → Seg V x b → b.length ≤ 100000000 → Calls Tryd.prog 9 #[x] V fun e w' => unwPost V b e w') := fun V x b hV hs hl => unwrap_any x b V hs hl (Nat.lt_of_lt_of_le hgf hV.size) (hf.below hV hgf)
  have HSB : Hid (∀ V, Below w.heap.size w V → Seg V (.slice ax p.b.length cx) p.b) := fun V hV => hS.below hV (Nat.le_refl _)
  obtain ⟨B, hB⟩ : ∃ B, B = w.heap.size := ⟨_, rfl⟩
  have HBE : Hid (w.heap.size = B) := hB.symm
  rw [← hB] at kB0
  unfold kpV kpL
  clear hS hm hf hgf
  go_enter Tryd.func5, Tryd.ntmps5
  go_wp2_with fail
  rw [← hB]
  clear hB
  generalize w.alloc (.cells #[.int .i64 p.k, .int .i64 p.f, .int .i64 p.t, .int .i64 p.s, .int .i64 p.a, .slice ax p.b.length cx] 25) = WA at *
  refine (awake14_any WA).mono ?_
  rintro e w1 ⟨rfl, hb1⟩
  have kB1 := kB0.below hb1 kB0.lt
  have hB1 := hB0.trans (hb1.mono hB0.size)
  clear hb1 hB0 kB0
  have k0 : w1.cell? ⟨B, 0, none⟩ = some (.int .i64 p.k) := kB1.cell (j := 0) rfl
  have k1 : w1.cell? ⟨B, 1, none⟩ = some (.int .i64 p.f) := kB1.cell (j := 1) rfl
  have k2 : w1.cell? ⟨B, 2, none⟩ = some (.int .i64 p.t) := kB1.cell (j := 2) rfl
  have k3 : w1.cell? ⟨B, 3, none⟩ = some (.int .i64 p.s) := kB1.cell (j := 3) rfl
  have k4 : w1.cell? ⟨B, 4, none⟩ = some (.int .i64 p.a) := kB1.cell (j := 4) rfl
  have k5 : w1.cell? ⟨B, 5, none⟩ = some (.slice ax p.b.length cx) := kB1.cell (j := 5) rfl
  by_cases hl : 5000 < p.b.length
  · have dl : decide ((5000 : Int) < (p.b.length : Int)) = true := decide_eq_true (by omega)
    clear hl kB1 HRT HWR HUN HSB
    go_wp2
    go_ret
    exact ⟨rfl, hB1⟩
  have dl : decide ((5000 : Int) < (p.b.length : Int)) = false := decide_eq_false (by omega)
  clear hl
  go_wp2_with fail
  refine (HRT.out _).mono ?_
  rintro e w2 ⟨rfl, hb2⟩
  have kB2 := kB1.below hb2 kB1.lt
  have hB2 := hB1.trans (hb2.mono hB1.size)
  clear hb2 hB1 kB1 HRT k0 k1 k2 k3 k4 k5
  have k0 : w2.cell? ⟨B, 0, none⟩ = some (.int .i64 p.k) := kB2.cell (j := 0) rfl
  have k1 : w2.cell? ⟨B, 1, none⟩ = some (.int .i64 p.f) := kB2.cell (j := 1) rfl
  have k2 : w2.cell? ⟨B, 2, none⟩ = some (.int .i64 p.t) := kB2.cell (j := 2) rfl
  have k3 : w2.cell? ⟨B, 3, none⟩ = some (.int .i64 p.s) := kB2.cell (j := 3) rfl
  have k4 : w2.cell? ⟨B, 4, none⟩ = some (.int .i64 p.a) := kB2.cell (j := 4) rfl
  have k5 : w2.cell? ⟨B, 5, none⟩ = some (.slice ax p.b.length cx) := kB2.cell (j := 5) rfl
  cases hr : rightK p with
  | false =>
    have hno : wrapO f t p = none := if_neg fun h => by have := h.2.2; rw [show rightK p = true from decide_eq_true this] at hr; cases hr
    clear hr
    clear kB2 HUN HSB
    go_wp2_with fail
    refine (HWR.out _ hB2).mono ?_
    intro e w3 hp
    rw [hno] at hp
    obtain ⟨he, hb3⟩ := hp
    have he : e = .returned (.tuple #[.slice none 0 0, .int .i64 1]) := he
    subst he
    have hB3 := hB2.trans (hb3.mono hB2.size)
    go_wp2
    go_ret
    exact ⟨rfl, hB3⟩
  | true =>
    have hpo : p.ok := of_decide_eq_true hr
    clear hr
    by_cases h0 : 0 ≤ f
    rotate_left
    · have d0 : decide (0 ≤ f) = false := decide_eq_false h0
      have hno : wrapO f t p = none := if_neg fun h => h0 h.1.1
      clear hpo h0
      clear kB2 HUN HSB
      go_wp2_with fail
      refine (HWR.out _ hB2).mono ?_
      intro e w3 hp
      rw [hno] at hp
      obtain ⟨he, hb3⟩ := hp
      have he : e = .returned (.tuple #[.slice none 0 0, .int .i64 1]) := he
      subst he
      have hB3 := hB2.trans (hb3.mono hB2.size)
      go_wp2
      go_ret
      exact ⟨rfl, hB3⟩
    have d0 : decide (0 ≤ f) = true := decide_eq_true h0
    by_cases h1 : f ≤ 4096
    rotate_left
    · have d1 : decide (f ≤ 4096) = false := decide_eq_false h1
      have hno : wrapO f t p = none := if_neg fun h => h1 h.1.2
      clear hpo h0 h1
      clear kB2 HUN HSB
      go_wp2_with fail
      refine (HWR.out _ hB2).mono ?_
      intro e w3 hp
      rw [hno] at hp
      obtain ⟨he, hb3⟩ := hp
      have he : e = .returned (.tuple #[.slice none 0 0, .int .i64 1]) := he
      subst he
      have hB3 := hB2.trans (hb3.mono hB2.size)
      go_wp2
      go_ret
      exact ⟨rfl, hB3⟩
    have d1 : decide (f ≤ 4096) = true := decide_eq_true h1
    by_cases h2 : 0 ≤ t
    rotate_left
    · have d2 : decide (0 ≤ t) = false := decide_eq_false h2
      have hno : wrapO f t p = none := if_neg fun h => h2 h.2.1.1
      clear hpo h0 h1 h2
      clear kB2 HUN HSB
      go_wp2_with fail
      refine (HWR.out _ hB2).mono ?_
      intro e w3 hp
      rw [hno] at hp
      obtain ⟨he, hb3⟩ := hp
      have he : e = .returned (.tuple #[.slice none 0 0, .int .i64 1]) := he
      subst he
      have hB3 := hB2.trans (hb3.mono hB2.size)
      go_wp2
      go_ret
      exact ⟨rfl, hB3⟩
    have d2 : decide (0 ≤ t) = true := decide_eq_true h2
    by_cases h3 : t ≤ 4096
    rotate_left
    · have d3 : decide (t ≤ 4096) = false := decide_eq_false h3
      have hno : wrapO f t p = none := if_neg fun h => h3 h.2.1.2
      clear hpo h0 h1 h2 h3
      clear kB2 HUN HSB
      go_wp2_with fail
      refine (HWR.out _ hB2).mono ?_
      intro e w3 hp
      rw [hno] at hp
      obtain ⟨he, hb3⟩ := hp
      have he : e = .returned (.tuple #[.slice none 0 0, .int .i64 1]) := he
      subst he
      have hB3 := hB2.trans (hb3.mono hB2.size)
      go_wp2
      go_ret
      exact ⟨rfl, hB3⟩
    have d3 : decide (t ≤ 4096) = true := decide_eq_true h3
    obtain ⟨x, hx, hxl, hwx⟩ := dg_some (f := f) (t := t) (p := p) ⟨⟨h0, h1⟩, ⟨h2, h3⟩, hpo⟩
    have HWX : Hid (wrapO f t p = some (sealB x)) := hwx
    have HXL : Hid ((sealB x).length ≤ 100000000) := by show _ ≤ _; rw [sealB_len]; omega
    clear h0 h1 h2 h3 hpo hx hxl hwx
    generalize sealB x = SB at *
    go_wp2_with fail
    refine (HWR.out _ hB2).mono ?_
    intro e w3 hp
    rw [HWX.out] at hp
    obtain ⟨⟨bv, rfl, ho3⟩, hb3⟩ := hp
    have kB3 := kB2.below hb3 kB2.lt
    have hB3 := hB2.trans (hb3.mono hB2.size)
    have hs3 := ho3.seg
    obtain ⟨a3, c3, e3⟩ := hs3.shapeD
    subst e3
    clear hb3 hB2 kB2 k0 k1 k2 k3 k4 k5 HWR ho3
    go_wp2_with fail
    refine (HUN.out _ _ _ hB3 hs3 HXL.out).mono ?_
    intro e w4 hp
    obtain ⟨aq, cq, rfl, hs4, hb4⟩ := unwPost_yes hp HWX.out
    have kB4 := kB3.below hb4 kB3.lt
    have hB4 := hB3.trans (hb4.mono hB3.size)
    clear hb4 hB3 kB3 hp HUN hs3 HWX
    unfold kpV kpL
    obtain ⟨Q, hQ⟩ : ∃ Q, Q = w4.heap.size := ⟨_, rfl⟩
    have kQ5 := Blk.new w4 25 #[.int .i64 p.k, .int .i64 p.f, .int .i64 p.t, .int .i64 p.s, .int .i64 p.a, .slice aq p.b.length cq]
    have kB5 := kB4.alloc (.cells #[.int .i64 p.k, .int .i64 p.f, .int .i64 p.t, .int .i64 p.s, .int .i64 p.a, .slice aq p.b.length cq] 25)
    have hB5 := hB4.alloc hB4.size (.cells #[.int .i64 p.k, .int .i64 p.f, .int .i64 p.t, .int .i64 p.s, .int .i64 p.a, .slice aq p.b.length cq] 25)
    have hs5 := hs4.alloc (.cells #[.int .i64 p.k, .int .i64 p.f, .int .i64 p.t, .int .i64 p.s, .int .i64 p.a, .slice aq p.b.length cq] 25)
    have hlt : B < w4.heap.size := kB4.lt
    have hne : B ≠ w4.heap.size := by omega
    have k0 : (w4.alloc (.cells #[.int .i64 p.k, .int .i64 p.f, .int .i64 p.t, .int .i64 p.s, .int .i64 p.a, .slice aq p.b.length cq] 25)).cell? ⟨B, 0, none⟩ = some (.int .i64 p.k) := kB5.cell (j := 0) rfl
    have k1 : (w4.alloc (.cells #[.int .i64 p.k, .int .i64 p.f, .int .i64 p.t, .int .i64 p.s, .int .i64 p.a, .slice aq p.b.length cq] 25)).cell? ⟨B, 1, none⟩ = some (.int .i64 p.f) := kB5.cell (j := 1) rfl
    have k2 : (w4.alloc (.cells #[.int .i64 p.k, .int .i64 p.f, .int .i64 p.t, .int .i64 p.s, .int .i64 p.a, .slice aq p.b.length cq] 25)).cell? ⟨B, 2, none⟩ = some (.int .i64 p.t) := kB5.cell (j := 2) rfl
    have k3 : (w4.alloc (.cells #[.int .i64 p.k, .int .i64 p.f, .int .i64 p.t, .int .i64 p.s, .int .i64 p.a, .slice aq p.b.length cq] 25)).cell? ⟨B, 3, none⟩ = some (.int .i64 p.s) := kB5.cell (j := 3) rfl
    have k4 : (w4.alloc (.cells #[.int .i64 p.k, .int .i64 p.f, .int .i64 p.t, .int .i64 p.s, .int .i64 p.a, .slice aq p.b.length cq] 25)).cell? ⟨B, 4, none⟩ = some (.int .i64 p.a) := kB5.cell (j := 4) rfl
    have k5 : (w4.alloc (.cells #[.int .i64 p.k, .int .i64 p.f, .int .i64 p.t, .int .i64 p.s, .int .i64 p.a, .slice aq p.b.length cq] 25)).cell? ⟨B, 5, none⟩ = some (.slice ax p.b.length cx) := kB5.cell (j := 5) rfl
    have hsm := same13_any p p ax aq cx cq _ (HSB.out _ hB5) hs5
    rw [eqP_self] at hsm
    unfold kpV kpL at hsm
    have HSM : Hid (Calls Tryd.prog 11 #[.agg #[.int .i64 p.k, .int .i64 p.f, .int .i64 p.t, .int .i64 p.s, .int .i64 p.a, .slice ax p.b.length cx], .agg #[.int .i64 p.k, .int .i64 p.f, .int .i64 p.t, .int .i64 p.s, .int .i64 p.a, .slice aq p.b.length cq]] (w4.alloc (.cells #[.int .i64 p.k, .int .i64 p.f, .int .i64 p.t, .int .i64 p.s, .int .i64 p.a, .slice aq p.b.length cq] 25)) fun e w' => e = .returned (.bool true) ∧ Below (w4.alloc (.cells #[.int .i64 p.k, .int .i64 p.f, .int .i64 p.t, .int .i64 p.s, .int .i64 p.a, .slice aq p.b.length cq] 25)).heap.size (w4.alloc (.cells #[.int .i64 p.k, .int .i64 p.f, .int .i64 p.t, .int .i64 p.s, .int .i64 p.a, .slice aq p.b.length cq] 25)) w') := hsm
    clear hsm hs4 hs5 kB4 kB5 kQ5 hQ
    go_wp2_with fail
    refine HSM.out.mono ?_
    rintro e w6 ⟨rfl, hb6⟩
    have hB6 := hB5.trans (hb6.mono hB5.size)
    go_wp2
    go_ret
    exact ⟨rfl, hB6⟩
end Go.Proofs.YtpebjocmnojldaaDoor
