/-
  What is proved here: the statement WireWraps is true of any nodes, any packet and any bytes.
  Conditions: they lie in memory; the variable fourBits holds the sixteen words.
-/
import Derived.Test.YtpebjocmnojldaaDoorJWireAwake
import Derived.Test.YtpebjocmnojldaaDoorJRefWireW
namespace Go.Proofs.YtpebjocmnojldaaDoor
open Go.RowKit

/-- What Wrap answers, in one form. -/
def ansW : Option (List UInt8) → Int × List UInt8
  | none => (1, [])
  | some b => (0, b)
theorem post_ans {w w' : World} {o : Option (List UInt8)} {e : Ending} (h : encodePost w o e w') : ∃ a c, e = .returned (.tuple #[.slice a (ansW o).2.length c, .int .i64 (ansW o).1]) ∧ Seg w' (.slice a (ansW o).2.length c) (ansW o).2 ∧ Below w.heap.size w w' := by
  cases o with
  | none =>
    obtain ⟨h, hb⟩ := h
    exact ⟨none, 0, h, seg_nil _, hb⟩
  | some b =>
    obtain ⟨⟨v, h, ho⟩, hb⟩ := h
    obtain ⟨a, c, hv⟩ := ho.seg.shapeD
    subst hv
    exact ⟨a, c, h, ho.seg, hb⟩
/-- A second answer of Unwrap on the same bytes is the first. -/
theorem unw_next {b : List UInt8} {d : DG} {er : Int} {w w' : World} {e : Ending} (h : (er = 0 ∧ unwIs b (some d)) ∨ (er = 2 ∧ d = ⟨0, 0, zeroP⟩ ∧ unwIs b none)) (h2 : unwPost w b e w') : ∃ (a : Option Addr) (c : Nat), e = .returned (.tuple #[.int .i64 d.f, .int .i64 d.t, kpV d.p (.slice a d.p.b.length c), .int .i64 er]) ∧ Seg w' (.slice a d.p.b.length c) d.p.b ∧ Below w.heap.size w w' := by
  obtain ⟨d2, a2, c2, er2, rfl, hs2, _, ho2, hb2⟩ := h2
  have hd : d2 = d ∧ er2 = er := by
    rcases h with ⟨h1, h3⟩ | ⟨h1, h4, h3⟩ <;> rcases ho2 with ⟨h1', h3'⟩ | ⟨h1', h4', h3'⟩
    · have := unwIs_one h3 h3'
      cases this
      exact ⟨rfl, h1'.trans h1.symm⟩
    · have := unwIs_one h3 h3'
      cases this
    · have := unwIs_one h3 h3'
      cases this
    · exact ⟨h4'.trans h4.symm, h1'.trans h1.symm⟩
  obtain ⟨rfl, rfl⟩ := hd
  exact ⟨a2, c2, rfl, hs2, hb2⟩
set_option maxRecDepth 100000 in
set_option maxHeartbeats 8000000 in
theorem wireWraps_any (z0 z1 : Int) (p : KP) (ax : Option Addr) (cx : Nat) (ab : Option Addr) (nb cb : Nat) (bs : List UInt8) (w : World) (hS : Seg w (.slice ax p.b.length cx) p.b) (hm : p.b.length ≤ maxLen) (hl : bs.length = nb) (hSb : Seg w (.slice ab nb cb) bs) (hgf : 0 < w.heap.size) (hf : Tab w 0 (fours.map v32)) :
    Calls Tryd.prog 3 #[.agg #[.int .i64 z0, .int .i64 z1], kpV p (.slice ax p.b.length cx), .slice ab nb cb] w fun e w' => e = .returned (.bool true) ∧ Below w.heap.size w w' := by
  subst hl
  have HWR : Hid (∀ V, Below w.heap.size w V → Calls Tryd.prog 7 #[.int .i64 z0, .int .i64 z1, .agg #[.int .i64 p.k, .int .i64 p.f, .int .i64 p.t, .int .i64 p.s, .int .i64 p.a, .slice ax p.b.length cx]] V fun e w' => encodePost V (wrapO z0 z1 p) e w') := fun V hV => wrap_any z0 z1 p ax cx V (hS.below hV (Nat.le_refl _)) hm (Nat.lt_of_lt_of_le hgf hV.size) (hf.below hV hgf)
  have HRW : Hid (∀ V, Below w.heap.size w V → Calls Tryd.prog 8 #[.int .i64 z0, .int .i64 z1, .agg #[.int .i64 p.k, .int .i64 p.f, .int .i64 p.t, .int .i64 p.s, .int .i64 p.a, .slice ax p.b.length cx]] V fun e w' => encodePost V (wrapO z0 z1 p) e w') := fun V hV => refWrap_any z0 z1 p ax cx V (hS.below hV (Nat.le_refl _)) hm
  have HUN : Hid (bs.length ≤ 100000000 → ∀ V, Below w.heap.size w V → Calls Tryd.prog 9 #[.slice ab bs.length cb] V fun e w' => unwPost V bs e w') := fun hl V hV => unwrap_any _ bs V (hSb.below hV (Nat.le_refl _)) hl (Nat.lt_of_lt_of_le hgf hV.size) (hf.below hV hgf)
  have HRU : Hid (bs.length ≤ 100000000 → ∀ V, Below w.heap.size w V → Calls Tryd.prog 10 #[.slice ab bs.length cb] V fun e w' => unwPost V bs e w') := fun hl V hV => refUnwrap_any _ bs V (hSb.below hV (Nat.le_refl _)) hl
  have hB0 : Below w.heap.size w ((w.alloc (.cells #[.int .i64 z0, .int .i64 z1] 22)).alloc (.cells #[.int .i64 p.k, .int .i64 p.f, .int .i64 p.t, .int .i64 p.s, .int .i64 p.a, .slice ax p.b.length cx] 25)) := ((Below.refl w.heap.size w).alloc (Nat.le_refl _) _).alloc (by simp) _
  have kX0 : Blk ((w.alloc (.cells #[.int .i64 z0, .int .i64 z1] 22)).alloc (.cells #[.int .i64 p.k, .int .i64 p.f, .int .i64 p.t, .int .i64 p.s, .int .i64 p.a, .slice ax p.b.length cx] 25)) w.heap.size 22 #[.int .i64 z0, .int .i64 z1] := (Blk.new w _ _).alloc _
  have kP0 : Blk ((w.alloc (.cells #[.int .i64 z0, .int .i64 z1] 22)).alloc (.cells #[.int .i64 p.k, .int .i64 p.f, .int .i64 p.t, .int .i64 p.s, .int .i64 p.a, .slice ax p.b.length cx] 25)) (w.heap.size + 1) 25 #[.int .i64 p.k, .int .i64 p.f, .int .i64 p.t, .int .i64 p.s, .int .i64 p.a, .slice ax p.b.length cx] := Blk.newAt _ _ _ _ (by simp)
  obtain ⟨X, hX⟩ : ∃ X, X = w.heap.size := ⟨_, rfl⟩
  have HXE : Hid (w.heap.size = X) := hX.symm
  rw [← hX] at kX0 kP0
  unfold kpV kpL
  clear hS hm hf hgf hSb
  go_enter Tryd.func3, Tryd.ntmps3
  go_wp2_with fail
  rw [← hX]
  clear hX
  generalize ((w.alloc (.cells #[.int .i64 z0, .int .i64 z1] 22)).alloc (.cells #[.int .i64 p.k, .int .i64 p.f, .int .i64 p.t, .int .i64 p.s, .int .i64 p.a, .slice ax p.b.length cx] 25)) = WA at *
  refine (awake14_any WA).mono ?_
  rintro e w1 ⟨rfl, hb1⟩
  have hB1 := hB0.trans (hb1.mono hB0.size)
  have kX1 := kX0.below hb1 kX0.lt
  have kP1 := kP0.below hb1 kP0.lt
  clear hb1 hB0 kX0 kP0
  have x0 : w1.cell? ⟨X, 0, none⟩ = some (.int .i64 z0) := kX1.cell (j := 0) rfl
  have x1 : w1.cell? ⟨X, 1, none⟩ = some (.int .i64 z1) := kX1.cell (j := 1) rfl
  have p0 : w1.cell? ⟨X + 1, 0, none⟩ = some (.int .i64 p.k) := kP1.cell (j := 0) rfl
  have p1 : w1.cell? ⟨X + 1, 1, none⟩ = some (.int .i64 p.f) := kP1.cell (j := 1) rfl
  have p2 : w1.cell? ⟨X + 1, 2, none⟩ = some (.int .i64 p.t) := kP1.cell (j := 2) rfl
  have p3 : w1.cell? ⟨X + 1, 3, none⟩ = some (.int .i64 p.s) := kP1.cell (j := 3) rfl
  have p4 : w1.cell? ⟨X + 1, 4, none⟩ = some (.int .i64 p.a) := kP1.cell (j := 4) rfl
  have p5 : w1.cell? ⟨X + 1, 5, none⟩ = some (.slice ax p.b.length cx) := kP1.cell (j := 5) rfl
  by_cases hl : 5000 < p.b.length
  · have dl : decide ((5000 : Int) < (p.b.length : Int)) = true := decide_eq_true (by omega)
    clear hl kX1 kP1 HWR HUN HRW HRU
    go_wp2
    go_ret
    exact ⟨rfl, hB1⟩
  have dl : decide ((5000 : Int) < (p.b.length : Int)) = false := decide_eq_false (by omega)
  by_cases hn : 5000 < bs.length
  · have dn : decide ((5000 : Int) < (bs.length : Int)) = true := decide_eq_true (by omega)
    clear hl hn kX1 kP1 HWR HUN HRW HRU
    go_wp2
    go_ret
    exact ⟨rfl, hB1⟩
  have dn : decide ((5000 : Int) < (bs.length : Int)) = false := decide_eq_false (by omega)
  have HUN : Hid (∀ V, Below w.heap.size w V → Calls Tryd.prog 9 #[.slice ab bs.length cb] V fun e w' => unwPost V bs e w') := HUN.out (by omega)
  have HRU : Hid (∀ V, Below w.heap.size w V → Calls Tryd.prog 10 #[.slice ab bs.length cb] V fun e w' => unwPost V bs e w') := HRU.out (by omega)
  clear hl hn
  go_wp2_with fail
  refine (HWR.out _ hB1).mono ?_
  intro e w2 hp
  obtain ⟨ac, cc, rfl, hs2, hb2⟩ := post_ans hp
  have hB2 := hB1.trans (hb2.mono hB1.size)
  have kX2 := kX1.below hb2 kX1.lt
  have kP2 := kP1.below hb2 kP1.lt
  clear hb2 hB1 kX1 kP1 hp HWR
  clear x0 x1 p0 p1 p2 p3 p4 p5
  have x0 : w2.cell? ⟨X, 0, none⟩ = some (.int .i64 z0) := kX2.cell (j := 0) rfl
  have x1 : w2.cell? ⟨X, 1, none⟩ = some (.int .i64 z1) := kX2.cell (j := 1) rfl
  have p0 : w2.cell? ⟨X + 1, 0, none⟩ = some (.int .i64 p.k) := kP2.cell (j := 0) rfl
  have p1 : w2.cell? ⟨X + 1, 1, none⟩ = some (.int .i64 p.f) := kP2.cell (j := 1) rfl
  have p2 : w2.cell? ⟨X + 1, 2, none⟩ = some (.int .i64 p.t) := kP2.cell (j := 2) rfl
  have p3 : w2.cell? ⟨X + 1, 3, none⟩ = some (.int .i64 p.s) := kP2.cell (j := 3) rfl
  have p4 : w2.cell? ⟨X + 1, 4, none⟩ = some (.int .i64 p.a) := kP2.cell (j := 4) rfl
  have p5 : w2.cell? ⟨X + 1, 5, none⟩ = some (.slice ax p.b.length cx) := kP2.cell (j := 5) rfl
  go_wp2_with fail
  refine (HRW.out _ hB2).mono ?_
  intro e w3 hp
  obtain ⟨aw, cw, rfl, hs3, hb3⟩ := post_ans hp
  have hB3 := hB2.trans (hb3.mono hB2.size)
  have hc3 := hs2.below hb3 (Nat.le_refl _)
  clear hb3 hB2 kX2 kP2 hp HRW hs2
  clear x0 x1 p0 p1 p2 p3 p4 p5
  generalize ansW (wrapO z0 z1 p) = AN at *
  obtain ⟨ek, nb⟩ := AN
  simp only at *
  go_wp2_with fail
  refine (HUN.out _ hB3).mono ?_
  intro e w4 hp4
  obtain ⟨d, aq, cq, er, rfl, hq4, -, hor, hb4⟩ := hp4
  have HOR : Hid ((er = 0 ∧ unwIs bs (some d)) ∨ (er = 2 ∧ d = ⟨0, 0, zeroP⟩ ∧ unwIs bs none)) := hor
  clear hor
  have hB4 := hB3.trans (hb4.mono hB3.size)
  have hc4 := hc3.below hb4 (Nat.le_refl _)
  have hw4 := hs3.below hb4 (Nat.le_refl _)
  clear hb4 hB3 hc3 hs3 HUN
  unfold kpV kpL
  obtain ⟨Q, hQ⟩ : ∃ Q, Q = w4.heap.size := ⟨_, rfl⟩
  have kQ5 := Blk.new w4 25 #[.int .i64 d.p.k, .int .i64 d.p.f, .int .i64 d.p.t, .int .i64 d.p.s, .int .i64 d.p.a, .slice aq d.p.b.length cq]
  have hB5 := hB4.alloc hB4.size (.cells #[.int .i64 d.p.k, .int .i64 d.p.f, .int .i64 d.p.t, .int .i64 d.p.s, .int .i64 d.p.a, .slice aq d.p.b.length cq] 25)
  have hc5 := hc4.alloc (.cells #[.int .i64 d.p.k, .int .i64 d.p.f, .int .i64 d.p.t, .int .i64 d.p.s, .int .i64 d.p.a, .slice aq d.p.b.length cq] 25)
  have hw5 := hw4.alloc (.cells #[.int .i64 d.p.k, .int .i64 d.p.f, .int .i64 d.p.t, .int .i64 d.p.s, .int .i64 d.p.a, .slice aq d.p.b.length cq] 25)
  have hq5 := hq4.alloc (.cells #[.int .i64 d.p.k, .int .i64 d.p.f, .int .i64 d.p.t, .int .i64 d.p.s, .int .i64 d.p.a, .slice aq d.p.b.length cq] 25)
  go_wp2_with fail
  rw [← hQ] at kQ5 ⊢
  clear hQ hB4 hc4 hw4 hq4
  generalize w4.alloc (.cells #[.int .i64 d.p.k, .int .i64 d.p.f, .int .i64 d.p.t, .int .i64 d.p.s, .int .i64 d.p.a, .slice aq d.p.b.length cq] 25) = w5 at *
  refine (HRU.out _ hB5).mono ?_
  intro e w6 hp6
  obtain ⟨ar, cr, rfl, hr6, hb6⟩ := unw_next HOR.out hp6
  have hB6 := hB5.trans (hb6.mono hB5.size)
  have hc6 := hc5.below hb6 (Nat.le_refl _)
  have hw6 := hw5.below hb6 (Nat.le_refl _)
  have hq6 := hq5.below hb6 (Nat.le_refl _)
  have kQ6 := kQ5.below hb6 kQ5.lt
  clear hb6 hB5 hc5 hw5 hq5 kQ5 hp6 HRU HOR
  have hlt : Q < w6.heap.size := kQ6.lt
  have hne : ¬ w6.heap.size = Q := by omega
  have hB7 := hB6.alloc hB6.size (.cells #[.int .i64 d.p.k, .int .i64 d.p.f, .int .i64 d.p.t, .int .i64 d.p.s, .int .i64 d.p.a, .slice ar d.p.b.length cr] 25)
  have hc7 := hc6.alloc (.cells #[.int .i64 d.p.k, .int .i64 d.p.f, .int .i64 d.p.t, .int .i64 d.p.s, .int .i64 d.p.a, .slice ar d.p.b.length cr] 25)
  have hw7 := hw6.alloc (.cells #[.int .i64 d.p.k, .int .i64 d.p.f, .int .i64 d.p.t, .int .i64 d.p.s, .int .i64 d.p.a, .slice ar d.p.b.length cr] 25)
  have hq7 := hq6.alloc (.cells #[.int .i64 d.p.k, .int .i64 d.p.f, .int .i64 d.p.t, .int .i64 d.p.s, .int .i64 d.p.a, .slice ar d.p.b.length cr] 25)
  have hr7 := hr6.alloc (.cells #[.int .i64 d.p.k, .int .i64 d.p.f, .int .i64 d.p.t, .int .i64 d.p.s, .int .i64 d.p.a, .slice ar d.p.b.length cr] 25)
  have kQ7 := kQ6.alloc (.cells #[.int .i64 d.p.k, .int .i64 d.p.f, .int .i64 d.p.t, .int .i64 d.p.s, .int .i64 d.p.a, .slice ar d.p.b.length cr] 25)
  clear kQ6 hB6 hc6 hw6 hq6 hr6
  have q0 : (w6.alloc (.cells #[.int .i64 d.p.k, .int .i64 d.p.f, .int .i64 d.p.t, .int .i64 d.p.s, .int .i64 d.p.a, .slice ar d.p.b.length cr] 25)).cell? ⟨Q, 0, none⟩ = some (.int .i64 d.p.k) := kQ7.cell (j := 0) rfl
  have q1 : (w6.alloc (.cells #[.int .i64 d.p.k, .int .i64 d.p.f, .int .i64 d.p.t, .int .i64 d.p.s, .int .i64 d.p.a, .slice ar d.p.b.length cr] 25)).cell? ⟨Q, 1, none⟩ = some (.int .i64 d.p.f) := kQ7.cell (j := 1) rfl
  have q2 : (w6.alloc (.cells #[.int .i64 d.p.k, .int .i64 d.p.f, .int .i64 d.p.t, .int .i64 d.p.s, .int .i64 d.p.a, .slice ar d.p.b.length cr] 25)).cell? ⟨Q, 2, none⟩ = some (.int .i64 d.p.t) := kQ7.cell (j := 2) rfl
  have q3 : (w6.alloc (.cells #[.int .i64 d.p.k, .int .i64 d.p.f, .int .i64 d.p.t, .int .i64 d.p.s, .int .i64 d.p.a, .slice ar d.p.b.length cr] 25)).cell? ⟨Q, 3, none⟩ = some (.int .i64 d.p.s) := kQ7.cell (j := 3) rfl
  have q4 : (w6.alloc (.cells #[.int .i64 d.p.k, .int .i64 d.p.f, .int .i64 d.p.t, .int .i64 d.p.s, .int .i64 d.p.a, .slice ar d.p.b.length cr] 25)).cell? ⟨Q, 4, none⟩ = some (.int .i64 d.p.a) := kQ7.cell (j := 4) rfl
  have q5 : (w6.alloc (.cells #[.int .i64 d.p.k, .int .i64 d.p.f, .int .i64 d.p.t, .int .i64 d.p.s, .int .i64 d.p.a, .slice ar d.p.b.length cr] 25)).cell? ⟨Q, 5, none⟩ = some (.slice aq d.p.b.length cq) := kQ7.cell (j := 5) rfl
  clear kQ7
  have hsm := same13_any d.p d.p aq ar cq cr _ hq7 hr7
  rw [eqP_self] at hsm
  unfold kpV kpL at hsm ⊢
  have HSM : Hid (Calls Tryd.prog 11 #[.agg #[.int .i64 d.p.k, .int .i64 d.p.f, .int .i64 d.p.t, .int .i64 d.p.s, .int .i64 d.p.a, .slice aq d.p.b.length cq], .agg #[.int .i64 d.p.k, .int .i64 d.p.f, .int .i64 d.p.t, .int .i64 d.p.s, .int .i64 d.p.a, .slice ar d.p.b.length cr]] (w6.alloc (.cells #[.int .i64 d.p.k, .int .i64 d.p.f, .int .i64 d.p.t, .int .i64 d.p.s, .int .i64 d.p.a, .slice ar d.p.b.length cr] 25)) fun e w' => e = .returned (.bool true) ∧ Below (w6.alloc (.cells #[.int .i64 d.p.k, .int .i64 d.p.f, .int .i64 d.p.t, .int .i64 d.p.s, .int .i64 d.p.a, .slice ar d.p.b.length cr] 25)).heap.size (w6.alloc (.cells #[.int .i64 d.p.k, .int .i64 d.p.f, .int .i64 d.p.t, .int .i64 d.p.s, .int .i64 d.p.a, .slice ar d.p.b.length cr] 25)) w') := hsm
  clear hsm hq7 hr7
  go_wp2_with fail
  refine HSM.out.mono ?_
  rintro e w8 ⟨rfl, hb8⟩
  have hB8 := hB7.trans (hb8.mono hB7.size)
  have s1 := seg_stringD (hc7.below hb8 (Nat.le_refl _)) 9
  have s2 := seg_stringD (hw7.below hb8 (Nat.le_refl _)) 9
  clear hb8 hB7 hc7 hw7 HSM q0 q1 q2 q3 q4 q5 hlt hne
  generalize nb.length = ln at *
  generalize (⟨nb.toArray⟩ : ByteArray) = BN at *
  go_wp2
  go_ret
  exact ⟨rfl, hB8⟩
end Go.Proofs.YtpebjocmnojldaaDoor
