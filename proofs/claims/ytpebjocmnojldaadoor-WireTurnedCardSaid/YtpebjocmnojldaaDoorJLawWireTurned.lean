/-
  What is proved here: the statement WireTurned is true of any nodes, any packet and any turn.
  Conditions: they lie in memory; the variable fourBits holds the sixteen words.
-/
import Derived.Test.YtpebjocmnojldaaDoorJLawWireNodes
import Derived.Test.YtpebjocmnojldaaDoorJCrcOwn
namespace Go.Proofs.YtpebjocmnojldaaDoor
open Go.RowKit

theorem Own.storeW {w : World} {base g n c : Nat} {bs : List UInt8} (h : Own w base (.slice (some ⟨g, 0, none⟩) n c) bs) (hn : bs.length = n) (i : Nat) (y : UInt8) :
    Own (w.setCell ⟨g, i, none⟩ (v8 y)) base (.slice (some ⟨g, 0, none⟩) n c) (bs.set i y) := by
  subst hn
  have := (World.ownsRow.stored h i (v8 y)).1
  unfold Own
  rw [List.length_set, List.map_set]
  exact this
theorem Own.cellW {w : World} {base g n c : Nat} {bs : List UInt8} (h : Own w base (.slice (some ⟨g, 0, none⟩) n c) bs) (hn : bs.length = n) (i : Nat) (hi : i < n) :
    w.cell? ⟨g, i, none⟩ = some (v8 (bs.getD i 0)) ∧ w.frozen? ⟨g, i, none⟩ = false := by
  subst hn
  refine ⟨?_, World.ownsRow.frozenAt h i⟩
  rw [World.ownsRow.cellAt h i (by simpa using hi)]
  simp [hi, List.getD]
theorem shr128W (r : Nat) : (128 : Int) / 2 ^ r = n8 (UInt8.ofNat (128 / 2 ^ r)) := by
  have h : 128 / 2 ^ r ≤ 128 := Nat.div_le_self _ _
  have e : (UInt8.ofNat (128 / 2 ^ r)).toNat = 128 / 2 ^ r := by simp; omega
  unfold n8
  rw [e, natPow, show (128 : Int) = ((128 : Nat) : Int) from rfl, ← Int.natCast_ediv]
theorem bit_formW (T : BitVec 32) (n : Nat) : bits .and .u32 (n32 T / 2 ^ n) 1 = if T.getLsbD n then 1 else 0 := by
  rw [natPow, shr32, show (1 : Int) = n32 1#32 from rfl, bits_and32]
  have e : (T >>> n) &&& 1#32 = if T.getLsbD n then 1#32 else 0#32 := by
    apply BitVec.eq_of_getLsbD_eq
    intro j hj
    rw [BitVec.getLsbD_and, BitVec.getLsbD_ushiftRight]
    by_cases h0 : j = 0
    · subst h0
      cases T.getLsbD n <;> simp
    · have : (1#32).getLsbD j = false := by simp [h0]
      rw [this]
      cases T.getLsbD n <;> simp [h0]
  rw [e]
  cases T.getLsbD n <;> rfl
/-- What a turned datagram is told as. -/
theorem unw_burst {b : List UInt8} {k : Nat} {T : BitVec 32} {o : Option DG} (hc : crcOf b = 0#32) (hk : k + 24 ≤ 8 * b.length) (hT : T.toNat < 16777216) (h0 : T ≠ 0#32) (ho : unwIs (burst b k T 24) o) : o = none := by
  cases o with
  | none => rfl
  | some d =>
    have h1 := unw_crc ho
    have h2 := crc_burst_ne b k T hk hT h0 0xB704CE#32
    exact absurd (h1.trans hc.symm) h2
theorem burst_zero (b : List UInt8) (k : Nat) : ∀ n, burst b k 0#32 n = b
  | 0 => rfl
  | n + 1 => by rw [burst, burst_zero b k n]; simp
theorem wrap_u32 (z : Int) : ∃ s : BitVec 32, IntKind.u32.wrap z = n32 s := by
  refine ⟨BitVec.ofInt 32 z, ?_⟩
  rw [IntKind.wrap_u32]
  unfold n32
  rw [BitVec.toNat_ofInt]
  omega
theorem catO_consW {x : Option (List UInt8)} {l : List (Option (List UInt8))} {q : List UInt8} (h : catO (x :: l) = some q) : ∃ a r, x = some a ∧ catO l = some r ∧ q = a ++ r := by
  cases x with
  | none => cases h
  | some a =>
    have h : (catO l).map (a ++ ·) = some q := h
    obtain ⟨r, hr, e⟩ := Option.map_eq_some_iff.1 h
    exact ⟨a, r, rfl, hr, e.symm⟩
theorem encOne_numlen {E : List Fld → List Val → Option (List UInt8)} {a b n : Nat} {p : List UInt8} (h : encOne E (.mk 1 a b []) (.mk n [] []) = some p) : p.length = wid (b - a) := by
  have h0 : encOne E (.mk 1 a b []) (.mk n [] []) = if n < a ∨ b < n then none else some (leN (n - a) (wid (b - a)) ++ (([] : List UInt8) ++ [])) := rfl
  rw [h0] at h
  split at h
  · cases h
  · cases h
    simp [leN_len]
theorem dg_min {f t : Int} {p : KP} {x : List UInt8} (h : encTop dgF (dgV f t p) = some x) : 4 ≤ x.length := by
  have h : encL 4 dgF (dgV f t p) = some x := (dg_rec.top (dgV f t p)).symm.trans h
  have h : catO (encOne (encL 3) (.mk 1 0 4096 []) (.mk f.toNat [] []) :: encOne (encL 3) (.mk 1 0 4096 []) (.mk t.toNat [] []) :: List.zipWith (encOne (encL 3)) (dgF.drop 2) ((dgV f t p).drop 2)) = some x := h
  obtain ⟨a, r, ha, hr, rfl⟩ := catO_consW h
  obtain ⟨b, r2, hb, _, rfl⟩ := catO_consW hr
  have h1 := encOne_numlen ha
  have h2 := encOne_numlen hb
  have hw : wid (4096 - 0) = 2 := by decide
  rw [hw] at h1 h2
  simp only [List.length_append]
  omega
set_option maxRecDepth 100000 in
set_option maxHeartbeats 8000000 in
theorem wireTurned_any (z0 z1 : Int) (p : KP) (ax : Option Addr) (cx : Nat) (y0 y1 : Int) (w : World) (hS : Seg w (.slice ax p.b.length cx) p.b) (hm : p.b.length ≤ maxLen) (hy : y0 ≤ 9223372036854775807) (hgf : 0 < w.heap.size) (hf : Tab w 0 (fours.map v32)) :
    Calls Tryd.prog 4 #[.agg #[.int .i64 z0, .int .i64 z1], kpV p (.slice ax p.b.length cx), .agg #[.int .i64 y0, .int .i64 y1]] w fun e w' => e = .returned (.bool true) ∧ Below w.heap.size w w' := by
  have HWR : Hid (∀ V, Below w.heap.size w V → Calls Tryd.prog 7 #[.int .i64 z0, .int .i64 z1, .agg #[.int .i64 p.k, .int .i64 p.f, .int .i64 p.t, .int .i64 p.s, .int .i64 p.a, .slice ax p.b.length cx]] V fun e w' => encodePost V (wrapO z0 z1 p) e w') := fun V hV => wrap_any z0 z1 p ax cx V (hS.below hV (Nat.le_refl _)) hm (Nat.lt_of_lt_of_le hgf hV.size) (hf.below hV hgf)
  have HUN : Hid (∀ V x b, Below w.heap.size w V → Seg V x b → b.length ≤ 100000000 → Calls Tryd.prog 9 #[x] V fun e w' => unwPost V b e w') := fun V x b hV hs hl => unwrap_any x b V hs hl (Nat.lt_of_lt_of_le hgf hV.size) (hf.below hV hgf)
  have HSB : Hid (∀ V, Below w.heap.size w V → Seg V (.slice ax p.b.length cx) p.b) := fun V hV => hS.below hV (Nat.le_refl _)
  have hB0 : Below w.heap.size w (((w.alloc (.cells #[.int .i64 z0, .int .i64 z1] 22)).alloc (.cells #[.int .i64 p.k, .int .i64 p.f, .int .i64 p.t, .int .i64 p.s, .int .i64 p.a, .slice ax p.b.length cx] 25)).alloc (.cells #[.int .i64 y0, .int .i64 y1] 22)) := (((Below.refl w.heap.size w).alloc (Nat.le_refl _) _).alloc (by simp) _).alloc (by simp; omega) _
  have kX0 : Blk (((w.alloc (.cells #[.int .i64 z0, .int .i64 z1] 22)).alloc (.cells #[.int .i64 p.k, .int .i64 p.f, .int .i64 p.t, .int .i64 p.s, .int .i64 p.a, .slice ax p.b.length cx] 25)).alloc (.cells #[.int .i64 y0, .int .i64 y1] 22)) w.heap.size 22 #[.int .i64 z0, .int .i64 z1] := ((Blk.new w _ _).alloc _).alloc _
  have kP0 : Blk (((w.alloc (.cells #[.int .i64 z0, .int .i64 z1] 22)).alloc (.cells #[.int .i64 p.k, .int .i64 p.f, .int .i64 p.t, .int .i64 p.s, .int .i64 p.a, .slice ax p.b.length cx] 25)).alloc (.cells #[.int .i64 y0, .int .i64 y1] 22)) (w.heap.size + 1) 25 #[.int .i64 p.k, .int .i64 p.f, .int .i64 p.t, .int .i64 p.s, .int .i64 p.a, .slice ax p.b.length cx] := Blk.alloc (Blk.newAt _ _ _ _ (by simp)) _
  have kY0 : Blk (((w.alloc (.cells #[.int .i64 z0, .int .i64 z1] 22)).alloc (.cells #[.int .i64 p.k, .int .i64 p.f, .int .i64 p.t, .int .i64 p.s, .int .i64 p.a, .slice ax p.b.length cx] 25)).alloc (.cells #[.int .i64 y0, .int .i64 y1] 22)) (w.heap.size + 1 + 1) 22 #[.int .i64 y0, .int .i64 y1] := Blk.newAt _ _ _ _ (by simp)
  obtain ⟨X, hX⟩ : ∃ X, X = w.heap.size := ⟨_, rfl⟩
  have HXE : Hid (w.heap.size = X) := hX.symm
  rw [← hX] at kX0 kP0 kY0
  unfold kpV kpL
  clear hS hm hf hgf
  go_enter Tryd.func4, Tryd.ntmps4
  go_wp2_with fail
  rw [← hX]
  clear hX
  generalize (((w.alloc (.cells #[.int .i64 z0, .int .i64 z1] 22)).alloc (.cells #[.int .i64 p.k, .int .i64 p.f, .int .i64 p.t, .int .i64 p.s, .int .i64 p.a, .slice ax p.b.length cx] 25)).alloc (.cells #[.int .i64 y0, .int .i64 y1] 22)) = WA at *
  refine (awake14_any WA).mono ?_
  rintro e w1 ⟨rfl, hb1⟩
  have hB1 := hB0.trans (hb1.mono hB0.size)
  have kX1 := kX0.below hb1 kX0.lt
  have kP1 := kP0.below hb1 kP0.lt
  have kY1 := kY0.below hb1 kY0.lt
  clear hb1 hB0 kX0 kP0 kY0
  have x01 : w1.cell? ⟨X, 0, none⟩ = some (.int .i64 z0) := kX1.cell (j := 0) rfl
  have x11 : w1.cell? ⟨X, 1, none⟩ = some (.int .i64 z1) := kX1.cell (j := 1) rfl
  have y01 : w1.cell? ⟨X + 1 + 1, 0, none⟩ = some (.int .i64 y0) := kY1.cell (j := 0) rfl
  have y11 : w1.cell? ⟨X + 1 + 1, 1, none⟩ = some (.int .i64 y1) := kY1.cell (j := 1) rfl
  have p0 : w1.cell? ⟨X + 1, 0, none⟩ = some (.int .i64 p.k) := kP1.cell (j := 0) rfl
  have p1 : w1.cell? ⟨X + 1, 1, none⟩ = some (.int .i64 p.f) := kP1.cell (j := 1) rfl
  have p2 : w1.cell? ⟨X + 1, 2, none⟩ = some (.int .i64 p.t) := kP1.cell (j := 2) rfl
  have p3 : w1.cell? ⟨X + 1, 3, none⟩ = some (.int .i64 p.s) := kP1.cell (j := 3) rfl
  have p4 : w1.cell? ⟨X + 1, 4, none⟩ = some (.int .i64 p.a) := kP1.cell (j := 4) rfl
  have p5 : w1.cell? ⟨X + 1, 5, none⟩ = some (.slice ax p.b.length cx) := kP1.cell (j := 5) rfl
  by_cases hl : 5000 < p.b.length
  · have dl : decide ((5000 : Int) < (p.b.length : Int)) = true := decide_eq_true (by omega)
    clear hl kX1 kP1 kY1 HWR HUN HSB hy
    go_wp2
    go_ret
    exact ⟨rfl, hB1⟩
  have dl : decide ((5000 : Int) < (p.b.length : Int)) = false := decide_eq_false (by omega)
  by_cases hn : y0 < 0
  · have dn : decide (y0 < 0) = true := decide_eq_true hn
    clear hl hn kX1 kP1 kY1 HWR HUN HSB hy
    go_wp2
    go_ret
    exact ⟨rfl, hB1⟩
  have dn : decide (y0 < 0) = false := decide_eq_false hn
  have HWR1 := HWR.out _ hB1
  by_cases hok : dgOk z0 z1 p
  rotate_left
  · have hno : wrapO z0 z1 p = none := if_neg hok
    rw [hno] at HWR1
    have HWR1 : Hid (Calls Tryd.prog 7 #[.int .i64 z0, .int .i64 z1, .agg #[.int .i64 p.k, .int .i64 p.f, .int .i64 p.t, .int .i64 p.s, .int .i64 p.a, .slice ax p.b.length cx]] w1 fun e w' => e = .returned (.tuple #[.slice none 0 0, .int .i64 1]) ∧ Below w1.heap.size w1 w') := HWR1
    clear hl hn kX1 kP1 kY1 HWR HUN HSB hy hok hno
    go_wp2_with fail
    refine HWR1.out.mono ?_
    rintro e w2 ⟨rfl, hb2⟩
    have hB2 := hB1.trans (hb2.mono hB1.size)
    go_wp2
    go_ret
    exact ⟨rfl, hB2⟩
  obtain ⟨x, hx, hxl, hwx⟩ := dg_some hok
  have hx4 := dg_min hx
  rw [hwx] at HWR1
  have HWX : Hid (wrapO z0 z1 p = some (sealB x)) := hwx
  have HCR : Hid (crcOf (sealB x) = 0#32) := crc_sealB x
  have hsl := sealB_len x
  generalize sealB x = SB at *
  have hlo : 7 ≤ SB.length := by omega
  have hhi : SB.length ≤ 1048579 := by omega
  have HWR1 : Hid (Calls Tryd.prog 7 #[.int .i64 z0, .int .i64 z1, .agg #[.int .i64 p.k, .int .i64 p.f, .int .i64 p.t, .int .i64 p.s, .int .i64 p.a, .slice ax p.b.length cx]] w1 fun e w' => ∃ b, e = .returned (.tuple #[b, .int .i64 0]) ∧ Own w' w1.heap.size b SB ∧ Below w1.heap.size w1 w') := HWR1.mono fun e w' h => by
    obtain ⟨⟨b, hb, ho⟩, hb2⟩ := h
    exact ⟨b, hb, ho, hb2⟩
  obtain ⟨A, rfl⟩ := Int.eq_ofNat_of_zero_le (Int.not_lt.1 hn)
  obtain ⟨K, hK, hK24⟩ : ∃ K : Nat, (A : Int) % (8 * ((SB.length : Int) - 3)) = (K : Int) ∧ K + 24 ≤ 8 * SB.length := by
    refine ⟨A % (8 * (SB.length - 3)), ?_, ?_⟩
    · rw [show (8 * ((SB.length : Int) - 3)) = ((8 * (SB.length - 3) : Nat) : Int) by omega]; simp
    · have := Nat.mod_lt A (show 0 < 8 * (SB.length - 3) by omega)
      omega
  obtain ⟨s, hs⟩ := wrap_u32 y1
  have ha := and24 s
  have hT := low24_lt s
  generalize low24 s = T at ha hT
  have HL : Hid (7 ≤ SB.length ∧ SB.length ≤ 1048579) := ⟨hlo, hhi⟩
  have HK : Hid ((A : Int) % (8 * ((SB.length : Int) - 3)) = (K : Int) ∧ K + 24 ≤ 8 * SB.length) := ⟨hK, hK24⟩
  have HT : Hid (T.toNat < 16777216) := hT
  clear hx hxl hwx hx4 hsl hlo hhi hok hl hn hK hK24 hT HWR hy
  have HYL : Hid (X + 1 + 1 < w1.heap.size ∧ w.heap.size ≤ w1.heap.size) := ⟨kY1.lt, hB1.size⟩
  go_wp2_with fail
  refine HWR1.out.mono ?_
  rintro e w2 ⟨b2, rfl, ho2, hb2⟩
  have hB2 := hB1.trans (hb2.mono hB1.size)
  have kX2 := kX1.below hb2 kX1.lt
  have kP2 := kP1.below hb2 kP1.lt
  have kY2 := kY1.below hb2 kY1.lt
  clear hb2 hB1 kX1 kP1 kY1 HWR1 x01 x11 y01 y11 p0 p1 p2 p3 p4 p5
  obtain ⟨g2, c2, e2, hgb2, hgl2, hc2, -⟩ := ho2.form (by have := HL.out; omega)
  subst e2
  have HG2 : Hid (X + 1 + 1 < g2 ∧ w.heap.size ≤ g2) := ⟨Nat.lt_of_lt_of_le HYL.out.1 hgb2, Nat.le_trans HYL.out.2 hgb2⟩
  go_wp2_with fail
  refine (HUN.out _ _ _ hB2 ho2.seg (by have := HL.out; omega)).mono ?_
  intro e w3 hp
  obtain ⟨aq, cq, rfl, hs3, hb3⟩ := unwPost_yes hp HWX.out
  have hB3 := hB2.trans (hb3.mono hB2.size)
  have kX3 := kX2.below hb3 kX2.lt
  have kP3 := kP2.below hb3 kP2.lt
  have kY3 := kY2.below hb3 kY2.lt
  have ho3 := ho2.below hb3 (Nat.le_refl _)
  clear hb3 hB2 kX2 kP2 kY2 hp ho2
  unfold kpV kpL
  have hltP : X + 1 < w3.heap.size := kP3.lt
  have hneP : X + 1 ≠ w3.heap.size := by omega
  have kX4 := kX3.alloc (.cells #[.int .i64 p.k, .int .i64 p.f, .int .i64 p.t, .int .i64 p.s, .int .i64 p.a, .slice aq p.b.length cq] 25)
  have kP4 := kP3.alloc (.cells #[.int .i64 p.k, .int .i64 p.f, .int .i64 p.t, .int .i64 p.s, .int .i64 p.a, .slice aq p.b.length cq] 25)
  have kY4 := kY3.alloc (.cells #[.int .i64 p.k, .int .i64 p.f, .int .i64 p.t, .int .i64 p.s, .int .i64 p.a, .slice aq p.b.length cq] 25)
  have hB4 := hB3.alloc hB3.size (.cells #[.int .i64 p.k, .int .i64 p.f, .int .i64 p.t, .int .i64 p.s, .int .i64 p.a, .slice aq p.b.length cq] 25)
  have ho4 := ho3.alloc (.cells #[.int .i64 p.k, .int .i64 p.f, .int .i64 p.t, .int .i64 p.s, .int .i64 p.a, .slice aq p.b.length cq] 25)
  have hs4 := hs3.alloc (.cells #[.int .i64 p.k, .int .i64 p.f, .int .i64 p.t, .int .i64 p.s, .int .i64 p.a, .slice aq p.b.length cq] 25)
  have p0 : (w3.alloc (.cells #[.int .i64 p.k, .int .i64 p.f, .int .i64 p.t, .int .i64 p.s, .int .i64 p.a, .slice aq p.b.length cq] 25)).cell? ⟨X + 1, 0, none⟩ = some (.int .i64 p.k) := kP4.cell (j := 0) rfl
  have p1 : (w3.alloc (.cells #[.int .i64 p.k, .int .i64 p.f, .int .i64 p.t, .int .i64 p.s, .int .i64 p.a, .slice aq p.b.length cq] 25)).cell? ⟨X + 1, 1, none⟩ = some (.int .i64 p.f) := kP4.cell (j := 1) rfl
  have p2 : (w3.alloc (.cells #[.int .i64 p.k, .int .i64 p.f, .int .i64 p.t, .int .i64 p.s, .int .i64 p.a, .slice aq p.b.length cq] 25)).cell? ⟨X + 1, 2, none⟩ = some (.int .i64 p.t) := kP4.cell (j := 2) rfl
  have p3 : (w3.alloc (.cells #[.int .i64 p.k, .int .i64 p.f, .int .i64 p.t, .int .i64 p.s, .int .i64 p.a, .slice aq p.b.length cq] 25)).cell? ⟨X + 1, 3, none⟩ = some (.int .i64 p.s) := kP4.cell (j := 3) rfl
  have p4 : (w3.alloc (.cells #[.int .i64 p.k, .int .i64 p.f, .int .i64 p.t, .int .i64 p.s, .int .i64 p.a, .slice aq p.b.length cq] 25)).cell? ⟨X + 1, 4, none⟩ = some (.int .i64 p.a) := kP4.cell (j := 4) rfl
  have p5 : (w3.alloc (.cells #[.int .i64 p.k, .int .i64 p.f, .int .i64 p.t, .int .i64 p.s, .int .i64 p.a, .slice aq p.b.length cq] 25)).cell? ⟨X + 1, 5, none⟩ = some (.slice ax p.b.length cx) := kP4.cell (j := 5) rfl
  have hsm := same13_any p p ax aq cx cq _ (HSB.out _ hB4) hs4
  rw [eqP_self] at hsm
  unfold kpV kpL at hsm
  have HSM : Hid (Calls Tryd.prog 11 #[.agg #[.int .i64 p.k, .int .i64 p.f, .int .i64 p.t, .int .i64 p.s, .int .i64 p.a, .slice ax p.b.length cx], .agg #[.int .i64 p.k, .int .i64 p.f, .int .i64 p.t, .int .i64 p.s, .int .i64 p.a, .slice aq p.b.length cq]] (w3.alloc (.cells #[.int .i64 p.k, .int .i64 p.f, .int .i64 p.t, .int .i64 p.s, .int .i64 p.a, .slice aq p.b.length cq] 25)) fun e w' => e = .returned (.bool true) ∧ Below (w3.alloc (.cells #[.int .i64 p.k, .int .i64 p.f, .int .i64 p.t, .int .i64 p.s, .int .i64 p.a, .slice aq p.b.length cq] 25)).heap.size (w3.alloc (.cells #[.int .i64 p.k, .int .i64 p.f, .int .i64 p.t, .int .i64 p.s, .int .i64 p.a, .slice aq p.b.length cq] 25)) w') := hsm
  clear hsm hs3 hs4 kX3 kP3 kY3 hB3 ho3
  go_wp2_with fail
  refine HSM.out.mono ?_
  rintro e w5 ⟨rfl, hb5⟩
  have hB5 := hB4.trans (hb5.mono hB4.size)
  have kX5 := kX4.below hb5 kX4.lt
  have kP5 := kP4.below hb5 kP4.lt
  have kY5 := kY4.below hb5 kY4.lt
  have ho5 := ho4.below hb5 (Nat.le_refl _)
  clear hb5 hB4 kX4 kP4 kY4 ho4 HSM p0 p1 p2 p3 p4 p5 hltP hneP
  have x05 : w5.cell? ⟨X, 0, none⟩ = some (.int .i64 z0) := kX5.cell (j := 0) rfl
  have x15 : w5.cell? ⟨X, 1, none⟩ = some (.int .i64 z1) := kX5.cell (j := 1) rfl
  have y05 : w5.cell? ⟨X + 1 + 1, 0, none⟩ = some (.int .i64 (A : Int)) := kY5.cell (j := 0) rfl
  have y15 : w5.cell? ⟨X + 1 + 1, 1, none⟩ = some (.int .i64 y1) := kY5.cell (j := 1) rfl
  clear kX5 kP5 kY5 HSB
  have dlen : decide ((SB.length : Int) < 7) = false := decide_eq_false (by have := HL.out; omega)
  have hge : 7 ≤ SB.length := HL.out.1
  have hle : SB.length ≤ 1048579 := HL.out.2
  go_wp2_with fail
  rw [HK.out.1]
  clear x05 x15 y05 y15 ha hs dlen hge hle
  go_loopw [17] (fun i wr => ∃ n : Nat, n ≤ 24 ∧ i = .int .i64 n ∧ Own wr w1.heap.size (.slice (some ⟨g2, 0, none⟩) SB.length c2) (burst SB K T n) ∧ Below w.heap.size w wr) (fun i _ => 24 - (intOf i).toNat)
  case atStart => exact ⟨0, by omega, rfl, ho5, hB5⟩
  case round =>
    clear ho5 hB5
    obtain ⟨n, hn, rfl, ho, hb⟩ := hrel
    have hlB : (burst SB K T n).length = SB.length := burst_len SB K T n
    by_cases hlt : n < 24
    · have hk24 := HK.out.2
      obtain ⟨hc, hfz⟩ := ho.cellW hlB ((K + n) / 8) (by omega)
      have hbt := bit_formW T n
      have hO : ∀ y, Own (wr.setCell ⟨g2, (K + n) / 8, none⟩ (v8 y)) w1.heap.size (.slice (some ⟨g2, 0, none⟩) SB.length c2) ((burst SB K T n).set ((K + n) / 8) y) := fun y => ho.storeW hlB _ y
      have HB : Hid (burst SB K T (n + 1) = if T.getLsbD n then (burst SB K T n).set ((K + n) / 8) ((burst SB K T n).getD ((K + n) / 8) 0 ^^^ UInt8.ofNat (128 / 2 ^ ((K + n) % 8))) else burst SB K T n) := rfl
      generalize (burst SB K T n).getD ((K + n) / 8) 0 = y0 at hc HB
      have hsh : Hid ((128 : Int) / 2 ^ ((K + n) % 8) = n8 (UInt8.ofNat (128 / 2 ^ ((K + n) % 8)))) := shr128W _
      generalize UInt8.ofNat (128 / 2 ^ ((K + n) % 8)) = y1 at HB hsh
      have hle : SB.length ≤ 1048579 := HL.out.2
      cases hbit : T.getLsbD n
      · rw [hbit] at hbt HB
        simp only [Bool.false_eq_true, if_false] at hbt HB
        go_wp2
        go_roundw
        case rel => exact ⟨n + 1, by omega, by go_num, by rw [HB.out]; exact ho, hb⟩
        case measure => simp [intOf]; omega
      · rw [hbit] at hbt HB
        simp only [if_true] at hbt HB
        go_wp2
        rw [hsh.out, xor8]
        go_roundw
        case rel => exact ⟨n + 1, by omega, by go_num, by rw [HB.out]; exact hO _, hb.setCell (by exact HG2.out.2) _⟩
        case measure => simp [intOf]; omega
    · obtain hn24 : n = 24 := by omega
      rw [hn24] at ho
      have hlB : (burst SB K T 24).length = SB.length := burst_len SB K T 24
      have HU := HUN.out wr _ _ hb ho.seg (by rw [hlB]; have := HL.out; omega)
      clear ho hlB hn hlt HUN
      go_wp2_with fail
      refine HU.mono ?_
      intro e w7 hp
      obtain ⟨d, ab, cb, er, rfl, hs7, -, hor, hb7⟩ := hp
      have hB7 := hb.trans (hb7.mono hb.size)
      have HOR : Hid ((er = 0 ∧ T = 0#32) ∨ (er = 2 ∧ T ≠ 0#32)) := by
        show _ ∨ _
        by_cases hz : T = 0#32
        · left
          rw [hz, burst_zero] at hor
          rcases hor with ⟨h1, _⟩ | ⟨_, _, h1⟩
          · exact ⟨h1, hz⟩
          · have := unw_wrap HWX.out h1
            cases this
        · right
          rcases hor with ⟨_, h1⟩ | ⟨h1, _, _⟩
          · have := unw_burst HCR.out HK.out.2 HT.out hz h1
            cases this
          · exact ⟨h1, hz⟩
      clear hor hs7 hb7 hb HU
      unfold kpV kpL
      have HBE : Hid (∀ o, Below w.heap.size w (w7.alloc o)) := fun o => hB7.alloc hB7.size o
      rcases HOR.out with ⟨rfl, hz⟩ | ⟨rfl, hz⟩
      · have h0 : (n32 T == 0) = true := by rw [hz]; rfl
        clear hz hB7
        go_wp2
        go_ret
        exact ⟨rfl, HBE.out _⟩
      · have h0 : (n32 T == 0) = false := by
          rw [show (0 : Int) = n32 0#32 from rfl, n32_beq]; simp [hz]
        clear hz hB7
        go_wp2
        go_ret
        exact ⟨rfl, HBE.out _⟩
end Go.Proofs.YtpebjocmnojldaaDoor
