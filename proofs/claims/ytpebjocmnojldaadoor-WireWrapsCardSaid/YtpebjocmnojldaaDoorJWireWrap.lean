/-
  What is proved here: wire.Wrap and wire.Unwrap.
  Conditions: what comes in lies in memory; the variable fourBits holds the sixteen words.
-/
import Derived.Test.YtpebjocmnojldaaDoorJWireVals
import Derived.Test.YtpebjocmnojldaaDoorJLinkRight
import Derived.Test.YtpebjocmnojldaaDoorJCrcSeal
namespace Go.Proofs.YtpebjocmnojldaaDoor
open Go.RowKit

theorem results_fourW {P : Program} {fn : Func} {p u x y : Tmp} {ty : TypeId} (h : fn.results = #[.tmp x, .tmp y, .cell p ty, .tmp u]) (tmps : Array Value) (w : World) (g : Nat) (t : TypeId) (cs : Array Value) (fr : Nat × Nat) (d : TypeDesc) (vx vy v : Value)
    (hx : tmps.getD x undef = vx) (hy : tmps.getD y undef = vy) (hp : tmps.getD p undef = .pointer (some ⟨g, 0, none⟩)) (hv : tmps.getD u undef = v) (hg : w.heap[g]? = some (.cells cs t fr))
    (hu : P.underlying ty = some d) (hd : (match d with | .struct _ | .array _ _ => true | _ => false) = true) (hi : (P.info? ty).map (·.size) = some cs.size) :
    (results fn tmps).run P w = .ok (.tuple #[vx, vy, .agg cs, v]) w := by
  have hp' : tmps[p]?.getD undef = .pointer (some ⟨g, 0, none⟩) := by simpa using hp
  have hv' : tmps[u]?.getD undef = v := by simpa using hv
  have hx' : tmps[x]?.getD undef = vx := by simpa using hx
  have hy' : tmps[y]?.getD undef = vy := by simpa using hy
  simp [results, h, hp', hv', hx', hy', asAddr, run_loadVar_row w g t ty cs fr d hg hu hd hi]
theorem info_pktW : (Tryd.prog.info? 25).map (·.size) = some 6 := by kernel_rfl
set_option maxRecDepth 100000 in
set_option maxHeartbeats 4000000 in
theorem wrap_any (f t : Int) (p : KP) (ax : Option Addr) (cx : Nat) (w : World) (hS : Seg w (.slice ax p.b.length cx) p.b) (hm : p.b.length ≤ maxLen) (hgf : 0 < w.heap.size) (hf : Tab w 0 (fours.map v32)) :
    Calls Tryd.prog 7 #[.int .i64 f, .int .i64 t, kpV p (.slice ax p.b.length cx)] w fun e w' => encodePost w (wrapO f t p) e w' := by
  have HRT : Hid (∀ V, Calls Tryd.prog 12 #[.agg #[.int .i64 p.k, .int .i64 p.f, .int .i64 p.t, .int .i64 p.s, .int .i64 p.a, .slice ax p.b.length cx]] V fun e w' => e = .returned (.bool (rightK p)) ∧ Below V.heap.size V w') := fun V => rightK_any p ax cx V
  have hB0 := (Below.refl w.heap.size w).alloc (Nat.le_refl _) (.cells #[.int .i64 p.k, .int .i64 p.f, .int .i64 p.t, .int .i64 p.s, .int .i64 p.a, .slice ax p.b.length cx] 25)
  have kB := Blk.new w 25 #[.int .i64 p.k, .int .i64 p.f, .int .i64 p.t, .int .i64 p.s, .int .i64 p.a, .slice ax p.b.length cx]
  unfold kpV kpL
  by_cases h1 : nodeOk f
  rotate_left
  · have hno : wrapO f t p = none := if_neg fun h => h1 h.1
    rw [hno]
    have HN : Hid (∀ V, Calls Tryd.prog 14 #[.int .i64 f] V fun e w' => e = .returned (.bool false) ∧ w' = V) := fun V => by have := node_any f V; rwa [decide_eq_false h1] at this
    clear h1 hno hS hm hf HRT kB
    go_enter Tryd.func7, Tryd.ntmps7
    go_wp2_with fail
    refine (HN.out _).mono ?_
    rintro e w1 ⟨rfl, rfl⟩
    go_wp2
    go_ret2
    exact ⟨rfl, hB0⟩
  have HN : Hid (∀ V, Calls Tryd.prog 14 #[.int .i64 f] V fun e w' => e = .returned (.bool true) ∧ w' = V) := fun V => by have := node_any f V; rwa [decide_eq_true h1] at this
  by_cases h2 : nodeOk t
  rotate_left
  · have hno : wrapO f t p = none := if_neg fun h => h2 h.2.1
    rw [hno]
    have HN2 : Hid (∀ V, Calls Tryd.prog 14 #[.int .i64 t] V fun e w' => e = .returned (.bool false) ∧ w' = V) := fun V => by have := node_any t V; rwa [decide_eq_false h2] at this
    clear h1 h2 hno hS hm hf HRT kB
    go_enter Tryd.func7, Tryd.ntmps7
    go_wp2_with fail
    refine (HN.out _).mono ?_
    rintro e w1 ⟨rfl, rfl⟩
    go_wp2_with fail
    refine (HN2.out _).mono ?_
    rintro e w1 ⟨rfl, rfl⟩
    go_wp2
    go_ret2
    exact ⟨rfl, hB0⟩
  have HN2 : Hid (∀ V, Calls Tryd.prog 14 #[.int .i64 t] V fun e w' => e = .returned (.bool true) ∧ w' = V) := fun V => by have := node_any t V; rwa [decide_eq_true h2] at this
  obtain ⟨B, hB⟩ : ∃ B, B = w.heap.size := ⟨_, rfl⟩
  rw [← hB] at kB
  have HBW : Hid (B = w.heap.size) := hB
  by_cases h3 : p.ok
  rotate_left
  · have hno : wrapO f t p = none := if_neg fun h => h3 h.2.2
    rw [hno]
    have hr : rightK p = false := decide_eq_false h3
    rw [hr] at HRT
    have k0 := kB.cell (j := 0) rfl
    have k1 := kB.cell (j := 1) rfl
    have k2 := kB.cell (j := 2) rfl
    have k3 := kB.cell (j := 3) rfl
    have k4 := kB.cell (j := 4) rfl
    have k5 := kB.cell (j := 5) rfl
    clear h1 h2 h3 hno hS hm hf hr kB
    go_enter Tryd.func7, Tryd.ntmps7
    go_wp2_with fail
    refine (HN.out _).mono ?_
    rintro e w1 ⟨rfl, rfl⟩
    go_wp2_with fail
    refine (HN2.out _).mono ?_
    rintro e w1 ⟨rfl, rfl⟩
    rw [← hB]
    clear hB
    generalize w.alloc (.cells #[.int .i64 p.k, .int .i64 p.f, .int .i64 p.t, .int .i64 p.s, .int .i64 p.a, .slice ax p.b.length cx] 25) = WA at *
    go_wp2_with fail
    refine (HRT.out _).mono ?_
    rintro e w1 ⟨rfl, hb1⟩
    have hB1 := hB0.trans (hb1.mono hB0.size)
    clear hb1 hB0
    go_wp2
    go_ret2
    exact ⟨rfl, hB1⟩
  have hok : dgOk f t p := ⟨h1, h2, h3⟩
  obtain ⟨x, hx, hxl, hwx⟩ := dg_some hok
  rw [hwx]
  have hr : rightK p = true := decide_eq_true h3
  rw [hr] at HRT
  obtain ⟨⟨f1, f2⟩, ⟨t1, t2⟩, ⟨c1, c2⟩, cb, ⟨d1, d2⟩, ⟨e1, e2⟩, ⟨g1, g2⟩, ⟨i1, i2⟩, _, _⟩ := hok
  have HX : Hid (encTop dgF (dgV f t p) = some x ∧ x.length ≤ 1048576) := ⟨hx, hxl⟩
  have HSB : Hid (∀ V, Below w.heap.size w V → Seg V (.slice ax p.b.length cx) p.b) := fun V hV => hS.below hV (Nat.le_refl _)
  have HTB : Hid (∀ V, Below w.heap.size w V → 0 < V.heap.size ∧ Tab V 0 (fours.map v32)) := fun V hV => ⟨Nat.lt_of_lt_of_le hgf hV.size, hf.below hV hgf⟩
  obtain ⟨pk, pf, pt, ps, pa, pb⟩ := p
  simp only at *
  obtain ⟨a0, rfl⟩ : ∃ a : Nat, f = (a : Int) := ⟨f.toNat, by omega⟩
  obtain ⟨a1, rfl⟩ : ∃ a : Nat, t = (a : Int) := ⟨t.toNat, by omega⟩
  obtain ⟨a2, rfl⟩ : ∃ a : Nat, pk = (a : Int) := ⟨pk.toNat, by omega⟩
  obtain ⟨a3, rfl⟩ : ∃ a : Nat, pf = (a : Int) := ⟨pf.toNat, by omega⟩
  obtain ⟨a4, rfl⟩ : ∃ a : Nat, pt = (a : Int) := ⟨pt.toNat, by omega⟩
  obtain ⟨a5, rfl⟩ : ∃ a : Nat, ps = (a : Int) := ⟨ps.toNat, by omega⟩
  obtain ⟨a6, rfl⟩ : ∃ a : Nat, pa = (a : Int) := ⟨pa.toNat, by omega⟩
  have HVL : Hid (∀ G V, Blk V G 48 (dgA a0 a1 a2 a3 a4 a5 a6 (.slice ax pb.length cx)) → Below w.heap.size w V → Calls Tryd.prog 17 #[.pointer (some ⟨G, 0, none⟩)] V fun e w' => ∃ v, e = .returned v ∧ Vals w' 1 v (recV [a0, a1, a2, a3, a4, a5, a6] (some pb)) ∧ Below V.heap.size V w') := fun G V hk hV => vals_any G a0 a1 a2 a3 a4 a5 a6 _ pb V hk (HSB.out V hV) hm (by omega) (by omega) (by omega) (by omega) (by omega) (by omega) (by omega)
  have hdv : dgV (a0 : Int) (a1 : Int) ⟨a2, a3, a4, a5, a6, pb⟩ = recV [a0, a1, a2, a3, a4, a5, a6] (some pb) := rfl
  rw [hdv] at HX
  have HE : Hid (∀ V lv vv, Flds V 1 lv dgF → Vals V 1 vv (recV [a0, a1, a2, a3, a4, a5, a6] (some pb)) → Calls Tryd.prog 15 #[lv, vv] V fun e w' => ∃ b, e = .returned (.tuple #[b, .int .i64 0]) ∧ Own w' V.heap.size b x ∧ Below V.heap.size V w') := fun V lv vv h1 h2 => (encode_any 1 lv dgF 1 vv _ V h1 h2).mono fun e w' h => by
    rw [HX.out.1] at h
    obtain ⟨⟨b, hb, ho⟩, hb2⟩ := h
    exact ⟨b, hb, ho, hb2⟩
  have HDF : Hid (∀ V, Calls Tryd.prog 16 #[] V fun e w' => ∃ v, e = .returned v ∧ Flds w' 1 v dgF ∧ Below V.heap.size V w') := fun V => dgF_any V
  have k0 : Blk _ B _ _ := kB
  have k0 := kB.cell (j := 0) rfl
  have k1 := kB.cell (j := 1) rfl
  have k2 := kB.cell (j := 2) rfl
  have k3 := kB.cell (j := 3) rfl
  have k4 := kB.cell (j := 4) rfl
  have k5 := kB.cell (j := 5) rfl
  clear h1 h2 h3 hx hxl hwx hr f1 f2 t1 t2 c1 c2 cb d1 d2 e1 e2 g1 g2 i1 i2 hS hf hgf hdv hm
  go_enter Tryd.func7, Tryd.ntmps7
  go_wp2_with fail
  refine (HN.out _).mono ?_
  rintro e w1 ⟨rfl, rfl⟩
  go_wp2_with fail
  refine (HN2.out _).mono ?_
  rintro e w1 ⟨rfl, rfl⟩
  rw [← hB]
  clear hB
  generalize w.alloc (.cells #[.int .i64 (a2 : Int), .int .i64 (a3 : Int), .int .i64 (a4 : Int), .int .i64 (a5 : Int), .int .i64 (a6 : Int), .slice ax pb.length cx] 25) = WA at *
  go_wp2_with fail
  refine (HRT.out _).mono ?_
  rintro e w1 ⟨rfl, hb1⟩
  have hB1 := hB0.trans (hb1.mono hB0.size)
  have kB1 := kB.below hb1 kB.lt
  clear hb1 hB0 kB k0 k1 k2 k3 k4 k5 HN HN2 HRT
  have k0 := kB1.cell (j := 0) rfl
  have k1 := kB1.cell (j := 1) rfl
  have k2 := kB1.cell (j := 2) rfl
  have k3 := kB1.cell (j := 3) rfl
  have k4 := kB1.cell (j := 4) rfl
  have k5 := kB1.cell (j := 5) rfl
  have kD := Blk.new w1 48 (dgA a0 a1 a2 a3 a4 a5 a6 (.slice ax pb.length cx))
  have hBD := hB1.alloc hB1.size (.cells (dgA a0 a1 a2 a3 a4 a5 a6 (.slice ax pb.length cx)) 48)
  clear kB1
  go_wp2_with fail
  clear k0 k1 k2 k3 k4 k5
  generalize w1.alloc (.cells (dgA a0 a1 a2 a3 a4 a5 a6 (.slice ax pb.length cx)) 48) = WD at *
  generalize w1.heap.size = G at *
  refine (HDF.out _).mono ?_
  rintro e w2 ⟨lv, rfl, hF2, hb2⟩
  have hB2 := hBD.trans (hb2.mono hBD.size)
  have kD2 := kD.below hb2 kD.lt
  clear hb2 kD HDF
  go_wp2_with fail
  refine (HVL.out _ _ kD2 hB2).mono ?_
  rintro e w3 ⟨vv, rfl, hV3, hb3⟩
  have hB3 := hB2.trans (hb3.mono hB2.size)
  have hF3 := Flds.keeps (Keeps.of_below hb3 (Nat.le_refl _)) 1 _ _ hF2
  clear hb3 kD2 HVL hF2
  go_wp2_with fail
  refine (HE.out _ _ _ hF3 hV3).mono ?_
  rintro e w4 ⟨b4, rfl, ho4, hb4⟩
  have hB4 := hB3.trans (hb4.mono hB3.size)
  obtain ⟨ht1, ht2⟩ := HTB.out w4 hB4
  clear hb4 HE hF3 hV3
  obtain ⟨a4', c4', e4⟩ := ho4.seg.shapeD
  subst e4
  go_wp2_with fail
  refine (seal_any _ x w4 (by have := HX.out.2; omega) ho4.seg ht1 ht2).mono ?_
  rintro e w5 ⟨v5, rfl, ho5, hb5⟩
  have hB5 := hB4.trans (hb5.mono hB4.size)
  have HO5 : Hid (Own w5 w.heap.size v5 (sealB x)) := ho5.mono hB4.size
  clear ho5 hb5 ht1 ht2 ho4
  go_wp2
  go_ret2
  exact ⟨⟨_, rfl, HO5.out⟩, hB5⟩
/-- The bytes that values of pack's point to lie there still when a block of a packet was written that is older than they. -/
theorem body_late {w3 w7 W8 : World} {lo R : Nat} {vv bv : Value} {a0 a1 a2 a3 a4 a5 a6 b0 b1 b2 b3 b4 : Nat} {bs : List UInt8} {ab : Option Addr} {n cb : Nat} (hvk : ValsK w3 (fun b => lo ≤ b) 4 vv (recV [a0, a1, a2, a3, a4, a5, a6] (some bs))) (hR : R < lo) (hbv : ∃ b off c, vv = .slice (some ⟨b, off, none⟩) 8 c ∧ b < w3.heap.size ∧ w3.cell? ⟨b, off + 22, none⟩ = some bv) (hb : Below w3.heap.size w3 w7) (hg : w7.grownBy W8 (some R)) (hk : Blk W8 R 25 #[.int .i64 (b0 : Int), .int .i64 (b1 : Int), .int .i64 (b2 : Int), .int .i64 (b3 : Int), .int .i64 (b4 : Int), .slice ab n cb]) : Seg W8 bv bs := by
  obtain ⟨b, off, c, rfl, hbl, hc⟩ := hbv
  have hcell : ∀ q o, q ≠ R → q < w3.heap.size → W8.cell? ⟨q, o, none⟩ = w3.cell? ⟨q, o, none⟩ := fun q o hq hl => by
    have h1 : w7.cell? ⟨q, o, none⟩ = w3.cell? ⟨q, o, none⟩ := hb.cell (p := ⟨q, o, none⟩) hl
    rw [← h1]
    have hl7 : q < w7.heap.size := Nat.lt_of_lt_of_le hl hb.size
    exact World.cell?_of_block (a := ⟨q, o, none⟩) (hg.block q hl7 (fun e => hq (by cases e; rfl)))
  obtain ⟨ao, c', e, _, hat⟩ := hvk W8 ⟨Nat.le_trans hb.size hg.size, fun q o hq hl => hcell q o (by omega) hl⟩
  cases e
  obtain ⟨b', off', e, hbl', _, hat⟩ := hat (by show 0 < 8; decide)
  cases e
  have hx := (hat 0 (.mk a0 [] []) rfl).1
  obtain ⟨bv', hx7, hs, _⟩ := (hat 7 (.mk 0 bs []) rfl).2.1
  have hne : b ≠ R := by
    intro e
    subst e
    rw [Nat.zero_mul, Nat.add_zero] at hx
    have hx : W8.cell? ⟨b, off, none⟩ = some (.int .u64 (a0 : Int)) := hx
    match off, hx with
    | 0, hx => rw [hk.cell (j := 0) rfl] at hx; cases hx
    | 1, hx => rw [hk.cell (j := 1) rfl] at hx; cases hx
    | 2, hx => rw [hk.cell (j := 2) rfl] at hx; cases hx
    | 3, hx => rw [hk.cell (j := 3) rfl] at hx; cases hx
    | 4, hx => rw [hk.cell (j := 4) rfl] at hx; cases hx
    | 5, hx => rw [hk.cell (j := 5) rfl] at hx; cases hx
    | o + 6, hx =>
      unfold Blk at hk
      simp [World.cell?, hk] at hx
  have h7 : W8.cell? ⟨b, off + 22, none⟩ = some bv' := hx7
  rw [hcell b _ hne hbl, hc] at h7
  cases h7
  exact hs
def zeroP : KP := ⟨0, 0, 0, 0, 0, []⟩
/-- What Unwrap answers. -/
def unwPost (w : World) (b : List UInt8) (e : Ending) (w' : World) : Prop := ∃ (d : DG) (ab : Option Addr) (cb : Nat) (er : Int), e = .returned (.tuple #[.int .i64 d.f, .int .i64 d.t, kpV d.p (.slice ab d.p.b.length cb), .int .i64 er]) ∧ Seg w' (.slice ab d.p.b.length cb) d.p.b ∧ d.p.b.length ≤ maxLen ∧ ((er = 0 ∧ unwIs b (some d)) ∨ (er = 2 ∧ d = ⟨0, 0, zeroP⟩ ∧ unwIs b none)) ∧ Below w.heap.size w w'
theorem unwPost_bad {w w' : World} {b : List UInt8} (h : unwIs b none) (hb : Below w.heap.size w w') : unwPost w b (.returned (.tuple #[.int .i64 0, .int .i64 0, .agg #[.int .i64 0, .int .i64 0, .int .i64 0, .int .i64 0, .int .i64 0, .slice none 0 0], .int .i64 2])) w' :=
  ⟨⟨0, 0, zeroP⟩, none, 0, 2, rfl, seg_nil _, Nat.zero_le _, .inr ⟨rfl, rfl, h⟩, hb⟩
set_option maxRecDepth 100000 in
set_option maxHeartbeats 4000000 in
theorem unwrap_any (x : Value) (b : List UInt8) (w : World) (hS : Seg w x b) (hm : b.length ≤ 100000000) (hgf : 0 < w.heap.size) (hf : Tab w 0 (fours.map v32)) :
    Calls Tryd.prog 9 #[x] w fun e w' => unwPost w b e w' := by
  have hB0 := (Below.refl w.heap.size w).alloc (Nat.le_refl _) (.cells #[.int .i64 0, .int .i64 0, .int .i64 0, .int .i64 0, .int .i64 0, .slice none 0 0] 25)
  have kR0 := Blk.new w 25 #[.int .i64 0, .int .i64 0, .int .i64 0, .int .i64 0, .int .i64 0, .slice none 0 0]
  have HO := open_any x b _ hm (hS.alloc (.cells #[.int .i64 0, .int .i64 0, .int .i64 0, .int .i64 0, .int .i64 0, .slice none 0 0] 25)) (Nat.lt_of_lt_of_le hgf hB0.size) (hf.below hB0 hgf)
  have HDF : Hid (∀ V, Calls Tryd.prog 16 #[] V fun e w' => ∃ v, e = .returned v ∧ Flds w' 1 v dgF ∧ Below V.heap.size V w') := fun V => dgF_any V
  obtain ⟨ax, cx, rfl⟩ := hS.shapeD
  obtain ⟨R, hR⟩ : ∃ R, R = w.heap.size := ⟨_, rfl⟩
  have HRE : Hid (R = w.heap.size) := hR
  rw [← hR] at kR0
  obtain ⟨WA, hWA⟩ : ∃ WA, WA = w.alloc (.cells #[.int .i64 0, .int .i64 0, .int .i64 0, .int .i64 0, .int .i64 0, .slice none 0 0] 25) := ⟨_, rfl⟩
  have HWA : Hid (w.alloc (.cells #[.int .i64 0, .int .i64 0, .int .i64 0, .int .i64 0, .int .i64 0, .slice none 0 0] 25) = WA) := hWA.symm
  rw [← hWA] at HO hB0 kR0
  clear hWA
  have HO : Hid (Calls Tryd.prog 23 #[.slice ax b.length cx] WA fun e w' => ∃ v, e = .returned (.tuple #[v, .bool (openOf b).isSome]) ∧ Own w' WA.heap.size v ((openOf b).getD []) ∧ Below WA.heap.size WA w') := HO
  clear hS hf hgf hm
  cases hop : openOf b with
  | none =>
    have HW : Hid (unwIs b none) := unw_closed hop
    rw [hop] at HO
    clear hop
    go_enter Tryd.func9, Tryd.ntmps9
    go_wp2_with fail
    rw [← hR, HWA.out]
    clear hR
    refine HO.out.mono ?_
    rintro e w1 ⟨v1, rfl, -, hb1⟩
    have hB1 := hB0.trans (hb1.mono hB0.size)
    have kR1 := kR0.below hb1 kR0.lt
    clear hb1 hB0 kR0
    go_wp2_with (refine store_blk rfl 25 _ _ rfl rfl R #[.int .i64 0, .int .i64 0, .int .i64 0, .int .i64 0, .int .i64 0, .slice none 0 0] rfl rfl 25 _ kR1 info_pktW rfl (by simp [Value.oneCell']) ?_; intro WS kS hgS _)
    have hBS : Below w.heap.size w WS := below_grown hB1 hgS hB1.size (fun q hq => by cases hq; exact Nat.le_of_eq HRE.out.symm)
    refine bodyPost_ret (results_fourW Tryd.results9 _ _ R 25 #[.int .i64 0, .int .i64 0, .int .i64 0, .int .i64 0, .int .i64 0, .slice none 0 0] (0, 0) _ _ _ _ rfl rfl rfl rfl kS Tryd.underlying25 rfl info_pktW) rfl ?_
    exact unwPost_bad HW.out hBS
  | some s =>
    rw [hop] at HO
    have HOP : Hid (openOf b = some s) := hop
    clear hop
    go_enter Tryd.func9, Tryd.ntmps9
    go_wp2_with fail
    rw [← hR, HWA.out]
    clear hR
    refine HO.out.mono ?_
    rintro e w1 ⟨v1, rfl, ho1, hb1⟩
    change Own w1 _ v1 s at ho1
    have hB1 := hB0.trans (hb1.mono hB0.size)
    have kR1 := kR0.below hb1 kR0.lt
    clear hb1 hB0 kR0 HO
    have HML : Hid (s.length ≤ maxLen) := ho1.maxL
    obtain ⟨sa, sc, e1⟩ := ho1.seg.shapeD
    subst e1
    go_wp2_with fail
    refine (HDF.out _).mono ?_
    rintro e w2 ⟨lv, rfl, hF2, hb2⟩
    have hB2 := hB1.trans (hb2.mono hB1.size)
    have kR2 := kR1.below hb2 kR1.lt
    have hs2 := ho1.seg.below hb2 (Nat.le_refl _)
    clear hb2 hB1 kR1 HDF ho1
    have HDC := decode_any 1 lv dgF _ s w2 hF2 hs2 HML.out
    obtain ⟨al, cl, e2, _, _⟩ := hF2.form
    subst e2
    cases hdt : decTop dgF s with
    | error c =>
      obtain ⟨rfl, _⟩ := dg_err hdt
      have HW : Hid (unwIs b none) := unw_norec HOP.out hdt
      rw [hdt] at HDC
      have HDC : Hid (Calls Tryd.prog 24 #[.slice al dgF.length cl, .slice sa s.length sc] w2 fun e w' => e = .returned (.tuple #[.slice none 0 0, .int .i64 2]) ∧ Below w2.heap.size w2 w') := HDC
      clear hdt hF2 hs2
      go_wp2_with fail
      refine HDC.out.mono ?_
      rintro e w3 ⟨rfl, hb3⟩
      have hB3 := hB2.trans (hb3.mono hB2.size)
      have kR3 := kR2.below hb3 kR2.lt
      clear hb3 hB2 kR2 HDC
      go_wp2_with (refine store_blk rfl 25 _ _ rfl rfl R #[.int .i64 0, .int .i64 0, .int .i64 0, .int .i64 0, .int .i64 0, .slice none 0 0] rfl rfl 25 _ kR3 info_pktW rfl (by simp [Value.oneCell']) ?_; intro WS kS hgS _)
      have hBS : Below w.heap.size w WS := below_grown hB3 hgS hB3.size (fun q hq => by cases hq; exact Nat.le_of_eq HRE.out.symm)
      refine bodyPost_ret (results_fourW Tryd.results9 _ _ R 25 #[.int .i64 0, .int .i64 0, .int .i64 0, .int .i64 0, .int .i64 0, .slice none 0 0] (0, 0) _ _ _ _ rfl rfl rfl rfl kS Tryd.underlying25 rfl info_pktW) rfl ?_
      exact unwPost_bad HW.out hBS
    | ok v =>
      obtain ⟨f, t, p, rfl, hd⟩ := dg_dec hdt
      rw [hdt] at HDC
      have HDC : Hid (Calls Tryd.prog 24 #[.slice al dgF.length cl, .slice sa s.length sc] w2 fun e w' => (∃ val, e = .returned (.tuple #[val, .int .i64 0]) ∧ ValsK w' (fun b => w2.heap.size ≤ b) 4 val (dgV f t p)) ∧ Below w2.heap.size w2 w') := HDC
      have hgood := fun h => unw_good HOP.out hd h
      have hbad := fun h => unw_bad HOP.out hd h
      obtain ⟨_, _, _, ⟨f1, t1, c1, d1, e1, g1, i1⟩, hf2, ht2, hbl, ⟨c2, d2, e2, g2, i2⟩, he⟩ := hd
      have HMB : Hid (p.b.length ≤ maxLen) := (by unfold maxLen; omega : p.b.length ≤ maxLen)
      have HRT : Hid (∀ ab cb V, Calls Tryd.prog 12 #[.agg #[.int .i64 p.k, .int .i64 p.f, .int .i64 p.t, .int .i64 p.s, .int .i64 p.a, .slice ab p.b.length cb]] V fun e w' => e = .returned (.bool (rightK p)) ∧ Below V.heap.size V w') := fun ab cb V => rightK_any p ab cb V
      obtain ⟨pk, pf, pt, ps, pa, bs⟩ := p
      simp only at *
      obtain ⟨a0, rfl⟩ : ∃ a : Nat, f = (a : Int) := ⟨f.toNat, by omega⟩
      obtain ⟨a1, rfl⟩ : ∃ a : Nat, t = (a : Int) := ⟨t.toNat, by omega⟩
      obtain ⟨a2, rfl⟩ : ∃ a : Nat, pk = (a : Int) := ⟨pk.toNat, by omega⟩
      obtain ⟨a3, rfl⟩ : ∃ a : Nat, pf = (a : Int) := ⟨pf.toNat, by omega⟩
      obtain ⟨a4, rfl⟩ : ∃ a : Nat, pt = (a : Int) := ⟨pt.toNat, by omega⟩
      obtain ⟨a5, rfl⟩ : ∃ a : Nat, ps = (a : Int) := ⟨ps.toNat, by omega⟩
      obtain ⟨a6, rfl⟩ : ∃ a : Nat, pa = (a : Int) := ⟨pa.toNat, by omega⟩
      have HDO : Hid (∀ v V, Vals V 4 v (recV [a0, a1, a2, a3, a4, a5, a6] (some bs)) → Calls Tryd.prog 25 #[v] V fun e w' => ∃ bv, e = .returned (.agg (dgA a0 a1 a2 a3 a4 a5 a6 bv)) ∧ Seg w' bv bs ∧ (∃ b off c, v = .slice (some ⟨b, off, none⟩) 8 c ∧ b < V.heap.size ∧ V.cell? ⟨b, off + 22, none⟩ = some bv) ∧ Below V.heap.size V w') := fun v V hV => dgOf_any v a0 a1 a2 a3 a4 a5 a6 bs V hV (by omega) (by omega) (by omega) (by omega) (by omega) (by omega) (by omega)
      have hdv : dgV (a0 : Int) (a1 : Int) ⟨a2, a3, a4, a5, a6, bs⟩ = recV [a0, a1, a2, a3, a4, a5, a6] (some bs) := rfl
      rw [hdv] at HDC
      have HGOOD : Hid (rightK ⟨a2, a3, a4, a5, a6, bs⟩ = true → unwIs b (some ⟨a0, a1, ⟨a2, a3, a4, a5, a6, bs⟩⟩)) := hgood
      have HBAD : Hid (rightK ⟨a2, a3, a4, a5, a6, bs⟩ = false → unwIs b none) := hbad
      clear hdt hF2 hs2 hgood hbad f1 t1 c1 d1 e1 g1 i1 hf2 ht2 hbl c2 d2 e2 g2 i2 he hdv
      go_wp2_with fail
      refine HDC.out.mono ?_
      rintro e w3 ⟨⟨vv, rfl, hvk⟩, hb3⟩
      have hB3 := hB2.trans (hb3.mono hB2.size)
      have kR3 := kR2.below hb3 kR2.lt
      have hV3 := hvk _ (Agree.refl _ _)
      have HVK : Hid (ValsK w3 (fun b => w2.heap.size ≤ b) 4 vv (recV [a0, a1, a2, a3, a4, a5, a6] (some bs)) ∧ R < w2.heap.size) := ⟨hvk, kR2.lt⟩
      clear hb3 hB2 kR2 HDC hvk
      obtain ⟨av, nv, cv, e3⟩ := vals_form hV3
      subst e3
      go_wp2_with fail
      refine (HDO.out _ _ hV3).mono ?_
      rintro e w4 ⟨bv, rfl, hs4, hbv, hb4⟩
      have hB4 := hB3.trans (hb4.mono hB3.size)
      have kR4 := kR3.below hb4 kR3.lt
      obtain ⟨ab, cb, rfl⟩ := hs4.shapeD
      have HBV : Hid (∃ b off c, Value.slice av nv cv = .slice (some ⟨b, off, none⟩) 8 c ∧ b < w3.heap.size ∧ w3.cell? ⟨b, off + 22, none⟩ = some (.slice ab bs.length cb)) := hbv
      have HB34 : Hid (Below w3.heap.size w3 w4) := hb4
      clear hb4 hB3 kR3 HDO hV3 hbv
      have kD5 := Blk.new w4 48 (dgA a0 a1 a2 a3 a4 a5 a6 (.slice ab bs.length cb))
      have hB5 := hB4.alloc hB4.size (.cells (dgA a0 a1 a2 a3 a4 a5 a6 (.slice ab bs.length cb)) 48)
      have kR5 := kR4.alloc (.cells (dgA a0 a1 a2 a3 a4 a5 a6 (.slice ab bs.length cb)) 48)
      have hB35 := HB34.out.alloc HB34.out.size (.cells (dgA a0 a1 a2 a3 a4 a5 a6 (.slice ab bs.length cb)) 48)
      have hRD : w4.heap.size ≠ R := by have := kR4.lt; omega
      obtain ⟨D, hD⟩ : ∃ D, D = w4.heap.size := ⟨_, rfl⟩
      rw [← hD] at kD5 hRD
      have HDR : Hid (D ≠ R) := hRD
      obtain ⟨W5, hW5⟩ : ∃ W5, W5 = w4.alloc (.cells (dgA a0 a1 a2 a3 a4 a5 a6 (.slice ab bs.length cb)) 48) := ⟨_, rfl⟩
      have HW5 : Hid (w4.alloc (.cells (dgA a0 a1 a2 a3 a4 a5 a6 (.slice ab bs.length cb)) 48) = W5) := hW5.symm
      rw [← hW5] at kD5 hB5 kR5 hB35
      have HB35 : Hid (Below w3.heap.size w3 W5) := hB35
      clear hW5 kR4 hB4 hs4 hRD hB35 HB34
      have k2 : W5.cell? ⟨D, 2, none⟩ = some (.int .i64 (a2 : Int)) := kD5.cell (j := 2) rfl
      have k3 : W5.cell? ⟨D, 3, none⟩ = some (.int .i64 (a3 : Int)) := kD5.cell (j := 3) rfl
      have k4 : W5.cell? ⟨D, 4, none⟩ = some (.int .i64 (a4 : Int)) := kD5.cell (j := 4) rfl
      have k5 : W5.cell? ⟨D, 5, none⟩ = some (.int .i64 (a5 : Int)) := kD5.cell (j := 5) rfl
      have k6 : W5.cell? ⟨D, 6, none⟩ = some (.int .i64 (a6 : Int)) := kD5.cell (j := 6) rfl
      have k7 : W5.cell? ⟨D, 7, none⟩ = some (.slice ab bs.length cb) := kD5.cell (j := 7) rfl
      go_wp2_with fail
      rw [← hD, HW5.out]
      clear hD HW5 k2 k3 k4 k5 k6 k7
      refine (HRT.out _ _ _).mono ?_
      rintro e w7 ⟨rfl, hb7⟩
      have hB7 := hB5.trans (hb7.mono hB5.size)
      have kR7 := kR5.below hb7 kR5.lt
      have kD7 := kD5.below hb7 kD5.lt
      have HB37 : Hid (Below w3.heap.size w3 w7) := HB35.out.trans (hb7.mono HB35.out.size)
      clear hb7 hB5 kR5 kD5 HRT HB35
      cases hr : rightK ⟨a2, a3, a4, a5, a6, bs⟩ with
      | false =>
        have HW : Hid (unwIs b none) := HBAD.out hr
        clear hr
        go_wp2_with (refine store_blk rfl 25 _ _ rfl rfl R #[.int .i64 0, .int .i64 0, .int .i64 0, .int .i64 0, .int .i64 0, .slice none 0 0] rfl rfl 25 _ kR7 info_pktW rfl (by simp [Value.oneCell']) ?_; intro WS kS hgS _)
        have hBS : Below w.heap.size w WS := below_grown hB7 hgS hB7.size (fun q hq => by cases hq; exact Nat.le_of_eq HRE.out.symm)
        refine bodyPost_ret (results_fourW Tryd.results9 _ _ R 25 #[.int .i64 0, .int .i64 0, .int .i64 0, .int .i64 0, .int .i64 0, .slice none 0 0] (0, 0) _ _ _ _ rfl rfl rfl rfl kS Tryd.underlying25 rfl info_pktW) rfl ?_
        exact unwPost_bad HW.out hBS
      | true =>
        have HW : Hid (unwIs b (some ⟨a0, a1, ⟨a2, a3, a4, a5, a6, bs⟩⟩)) := HGOOD.out hr
        clear hr
        go_wp2_with fail
        have hS0 : Blk w7.drew D 48 (dgA a0 a1 a2 a3 a4 a5 a6 (.slice ab bs.length cb)) := kD7.drew
        refine held_begin (fun V => Blk V D 48 (dgA a0 a1 a2 a3 a4 a5 a6 (.slice ab bs.length cb))) (by kernel_rfl) ?_
        refine held_take 0 36 _ (.pointer (some ⟨D, 0, none⟩)) rfl rfl (by kernel_rfl) (by kernel_rfl) (by kernel_rfl) rfl hS0 (fun _ _ => rfl) ?_
        simp only [Act.put, List.setIfInBounds_toArray, List.set_cons_succ, List.set_cons_zero]
        refine held_take 1 37 _ (.int .i64 (a0 : Int)) rfl rfl (by kernel_rfl) (by kernel_rfl) (by kernel_rfl) rfl hS0 (fun V hV => exec_loadc 3 _ rfl _ _ rfl (load_one 3 (fun _ => by kernel_rfl) V _ _ _ (hV.cell (j := 0) rfl))) ?_
        simp only [Act.put, List.setIfInBounds_toArray, List.set_cons_succ, List.set_cons_zero]
        refine held_take 2 38 _ (.pointer (some ⟨D, 1, none⟩)) rfl rfl (by kernel_rfl) (by kernel_rfl) (by kernel_rfl) rfl hS0 (fun _ _ => rfl) ?_
        simp only [Act.put, List.setIfInBounds_toArray, List.set_cons_succ, List.set_cons_zero]
        refine held_take 3 39 _ (.int .i64 (a1 : Int)) rfl rfl (by kernel_rfl) (by kernel_rfl) (by kernel_rfl) rfl hS0 (fun V hV => exec_loadc 3 _ rfl _ _ rfl (load_one 3 (fun _ => by kernel_rfl) V _ _ _ (hV.cell (j := 1) rfl))) ?_
        simp only [Act.put, List.setIfInBounds_toArray, List.set_cons_succ, List.set_cons_zero]
        refine held_take 4 40 _ (.pointer (some ⟨D, 2, none⟩)) rfl rfl (by kernel_rfl) (by kernel_rfl) (by kernel_rfl) rfl hS0 (fun _ _ => rfl) ?_
        simp only [Act.put, List.setIfInBounds_toArray, List.set_cons_succ, List.set_cons_zero]
        refine held_take 5 41 _ (.agg #[.int .i64 (a2 : Int), .int .i64 (a3 : Int), .int .i64 (a4 : Int), .int .i64 (a5 : Int), .int .i64 (a6 : Int), .slice ab bs.length cb]) rfl rfl (by kernel_rfl) (by kernel_rfl) (by kernel_rfl) rfl hS0 (fun V hV => exec_loadB 25 _ rfl D 2 [.int .i64 (a2 : Int), .int .i64 (a3 : Int), .int .i64 (a4 : Int), .int .i64 (a5 : Int), .int .i64 (a6 : Int), .slice ab bs.length cb] _ rfl (hV.range 2 _ (fun j v hj => by have : j < 6 := (List.getElem?_eq_some_iff.1 hj).1; match j, hj with | 0, hj => exact hj | 1, hj => exact hj | 2, hj => exact hj | 3, hj => exact hj | 4, hj => exact hj | 5, hj => exact hj)) Tryd.underlying25 rfl info_pktW) ?_
        simp only [Act.put, List.setIfInBounds_toArray, List.set_cons_succ, List.set_cons_zero]
        refine held_take 6 2 _ (.int .i64 (a0 : Int)) rfl rfl (by kernel_rfl) (by kernel_rfl) (by kernel_rfl) rfl hS0 (fun _ _ => rfl) ?_
        simp only [Act.put, List.setIfInBounds_toArray, List.set_cons_succ, List.set_cons_zero]
        refine held_take 7 3 _ (.int .i64 (a1 : Int)) rfl rfl (by kernel_rfl) (by kernel_rfl) (by kernel_rfl) rfl hS0 (fun _ _ => rfl) ?_
        simp only [Act.put, List.setIfInBounds_toArray, List.set_cons_succ, List.set_cons_zero]
        refine held_all1 8 (by kernel_rfl) (op_row 8 _ rfl rfl rfl 25 _ _ rfl R #[.int .i64 (a2 : Int), .int .i64 (a3 : Int), .int .i64 (a4 : Int), .int .i64 (a5 : Int), .int .i64 (a6 : Int), .slice ab bs.length cb] rfl rfl 25 _ kR7.drew info_pktW rfl (by simp [Value.oneCell']) ?_)
        intro W8 kR8 hg8 _
        have hB8 : Below w.heap.size w W8 := below_grown hB7.drew hg8 hB7.drew.size (fun q hq => by cases hq; exact Nat.le_of_eq HRE.out.symm)
        have hS8 : Blk W8 D 48 (dgA a0 a1 a2 a3 a4 a5 a6 (.slice ab bs.length cb)) := hS0.grown hg8 (by simpa using HDR.out)
        refine ⟨hS8, ?_⟩
        refine held_take 9 5 _ (.int .i64 0) rfl rfl (by kernel_rfl) (by kernel_rfl) (by kernel_rfl) rfl hS8 (fun _ _ => rfl) ?_
        simp only [Act.put, List.setIfInBounds_toArray, List.set_cons_succ, List.set_cons_zero]
        refine wpAnyH_done (by kernel_rfl) ?_ _
        refine NoPanic.normal ?_
        go_wp2
        refine bodyPost_ret (results_fourW Tryd.results9 _ _ R 25 #[.int .i64 (a2 : Int), .int .i64 (a3 : Int), .int .i64 (a4 : Int), .int .i64 (a5 : Int), .int .i64 (a6 : Int), .slice ab bs.length cb] (0, 0) _ _ _ _ rfl rfl rfl rfl kR8 Tryd.underlying25 rfl info_pktW) rfl ?_
        exact ⟨⟨a0, a1, ⟨a2, a3, a4, a5, a6, bs⟩⟩, ab, cb, 0, rfl, body_late HVK.out.1 HVK.out.2 HBV.out (HB37.out.drew) hg8 kR8, HMB.out, .inl ⟨rfl, HW.out⟩, hB8⟩
end Go.Proofs.YtpebjocmnojldaaDoor
