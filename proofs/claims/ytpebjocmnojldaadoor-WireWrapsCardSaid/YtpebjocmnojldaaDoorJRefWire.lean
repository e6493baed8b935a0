/-
  What is proved here: the document's own Wrap and Unwrap of layer 14.
  Conditions: what comes in lies in memory.
-/
import Derived.Test.YtpebjocmnojldaaDoorJWireWrap
import Derived.Test.YtpebjocmnojldaaDoorJWireEnc
import Derived.Test.YtpebjocmnojldaaDoorJRefEncode
import Derived.Test.YtpebjocmnojldaaDoorJRefDecode
import Derived.Test.YtpebjocmnojldaaDoorJRefSeal
import Derived.Test.YtpebjocmnojldaaDoorJRefLinkRight
namespace Go.Proofs.YtpebjocmnojldaaDoor
open Go.RowKit

set_option maxRecDepth 100000 in
theorem rnumF_any (a b : Nat) (w : World) : Calls Tryd.prog 43 #[.int .u64 (a : Int), .int .u64 (b : Int)] w fun e w' => e = .returned (.agg (fldW 1 a b)) ∧ Below w.heap.size w w' := by
  go_enter Tryd.func43, Tryd.ntmps43
  go_wp2
  exact bodyPost_ret (v := .agg (fldW 1 a b)) (by simp [results, Tryd.results43, go_sem, fldW]) rfl ⟨rfl, (Below.refl _ _).alloc (Nat.le_refl _) _⟩
set_option maxRecDepth 100000 in
theorem rbytF_any (b : Nat) (w : World) : Calls Tryd.prog 44 #[.int .u64 (b : Int)] w fun e w' => e = .returned (.agg (fldW 2 0 b)) ∧ Below w.heap.size w w' := by
  go_enter Tryd.func44, Tryd.ntmps44
  go_wp2
  exact bodyPost_ret (v := .agg (fldW 2 0 b)) (by simp [results, Tryd.results44, go_sem, fldW]) rfl ⟨rfl, (Below.refl _ _).alloc (Nat.le_refl _) _⟩
set_option maxRecDepth 100000 in
set_option maxHeartbeats 4000000 in
theorem packetB_any (w : World) : Calls Tryd.prog 21 #[] w fun e w' => ∃ g, e = .returned (.slice (some ⟨g, 0, none⟩) 8 8) ∧ w.heap.size ≤ g ∧ Blk w' g 72 (fldsW dgN (some 1500)).toArray ∧ Below w.heap.size w w' := by
  have H1 : Hid (∀ (a b : Nat) V, Calls Tryd.prog 43 #[.int .u64 (a : Int), .int .u64 (b : Int)] V fun e w' => e = .returned (.agg (fldW 1 a b)) ∧ Below V.heap.size V w') := fun a b V => rnumF_any a b V
  have H2 : Hid (∀ (b : Nat) V, Calls Tryd.prog 44 #[.int .u64 (b : Int)] V fun e w' => e = .returned (.agg (fldW 2 0 b)) ∧ Below V.heap.size V w') := fun b V => rbytF_any b V
  go_enter Tryd.func21, Tryd.ntmps21
  go_wp2_with fail
  refine (H1.out 0 4096 _).mono ?_
  rintro e w1 ⟨rfl, hb1⟩
  have hB1 : Below w.heap.size w w1 := hb1
  go_wp2_with fail
  refine (H1.out 0 4096 _).mono ?_
  rintro e w2 ⟨rfl, hb2⟩
  have hB2 : Below w.heap.size w w2 := hB1.trans (hb2.mono hB1.size)
  go_wp2_with fail
  refine (H1.out 1 3 _).mono ?_
  rintro e w3 ⟨rfl, hb3⟩
  have hB3 : Below w.heap.size w w3 := hB2.trans (hb3.mono hB2.size)
  go_wp2_with fail
  refine (H1.out 1 1073741824 _).mono ?_
  rintro e w4 ⟨rfl, hb4⟩
  have hB4 : Below w.heap.size w w4 := hB3.trans (hb4.mono hB3.size)
  go_wp2_with fail
  refine (H1.out 0 1073741824 _).mono ?_
  rintro e w5 ⟨rfl, hb5⟩
  have hB5 : Below w.heap.size w w5 := hB4.trans (hb5.mono hB4.size)
  go_wp2_with fail
  refine (H1.out 0 1073741824 _).mono ?_
  rintro e w6 ⟨rfl, hb6⟩
  have hB6 : Below w.heap.size w w6 := hB5.trans (hb6.mono hB5.size)
  go_wp2_with fail
  refine (H1.out 0 1073741824 _).mono ?_
  rintro e w7 ⟨rfl, hb7⟩
  have hB7 : Below w.heap.size w w7 := hB6.trans (hb7.mono hB6.size)
  go_wp2_with fail
  refine (H2.out 1500 _).mono ?_
  rintro e w8 ⟨rfl, hb8⟩
  have hB8 := hB7.trans (hb8.mono hB7.size)
  have hB9 := hB8.alloc hB8.size (.cells (fldsW dgN (some 1500)).toArray 72)
  have k9 := Blk.new w8 72 (fldsW dgN (some 1500)).toArray
  have HF : Hid (Blk (w8.alloc (.cells (fldsW dgN (some 1500)).toArray 72)) w8.heap.size 72 (fldsW dgN (some 1500)).toArray ∧ w.heap.size ≤ w8.heap.size) := ⟨k9, hB8.size⟩
  clear k9 hB1 hB2 hB3 hB4 hB5 hB6 hB7 hB8 hb1 hb2 hb3 hb4 hb5 hb6 hb7 hb8 H1 H2
  go_wp2
  go_ret
  exact ⟨_, rfl, HF.out.2, HF.out.1, hB9⟩
theorem dgF_blk {w : World} {g : Nat} (h : Blk w g 72 (fldsW dgN (some 1500)).toArray) : Flds w 1 (.slice (some ⟨g, 0, none⟩) 8 8) dgF := fldsW_flds (c := 8) dgN (some 1500) h (fun j v hj => by simpa using hj) (by decide) (fun m h => by cases h; decide) (by decide) (by decide)
theorem packetR_any (w : World) : Calls Tryd.prog 21 #[] w fun e w' => ∃ v, e = .returned v ∧ Flds w' 1 v dgF ∧ Below w.heap.size w w' := (packetB_any w).mono fun e w' h => by
  obtain ⟨g, he, _, hk, hb⟩ := h
  exact ⟨_, he, dgF_blk hk, hb⟩
theorem built_pkt6 (k f t s a : Int) (ao : Option Addr) (n c : Nat) : Tryd.prog.built 25 [(0, .int .i64 k), (1, .int .i64 f), (2, .int .i64 t), (3, .int .i64 s), (4, .int .i64 a), (5, .slice ao n c)] = some #[.int .i64 k, .int .i64 f, .int .i64 t, .int .i64 s, .int .i64 a, .slice ao n c] := by kernel_rfl
theorem zero_pktW (w : World) : (zeroValue 25).run Tryd.prog w = .ok (.agg #[.int .i64 0, .int .i64 0, .int .i64 0, .int .i64 0, .int .i64 0, .slice none 0 0]) w := by kernel_rfl
theorem exec_allocP {a : Act} {o : Oper} {w : World} (ho : o.op = .alloc 25) : (execOp a.eval o).run Tryd.prog w = .ok (.value (.pointer (some ⟨w.heap.size, 0, none⟩))) (w.alloc (.cells #[.int .i64 0, .int .i64 0, .int .i64 0, .int .i64 0, .int .i64 0, .slice none 0 0] 25)) := by
  have hz := zero_pktW
  unfold execOp
  simp only [ho]
  simp [go_sem, hz]
/-- The cells of a datagram's values. -/
def SV (b0 o0 : Nat) (a0 a1 a2 a3 a4 a5 a6 : Nat) (bv : Value) (V : World) : Prop := V.cell? ⟨b0, o0, none⟩ = some (.int .u64 (a0 : Int)) ∧ V.cell? ⟨b0, o0 + 3, none⟩ = some (.int .u64 (a1 : Int)) ∧ V.cell? ⟨b0, o0 + 6, none⟩ = some (.int .u64 (a2 : Int)) ∧ V.cell? ⟨b0, o0 + 9, none⟩ = some (.int .u64 (a3 : Int)) ∧ V.cell? ⟨b0, o0 + 12, none⟩ = some (.int .u64 (a4 : Int)) ∧ V.cell? ⟨b0, o0 + 15, none⟩ = some (.int .u64 (a5 : Int)) ∧ V.cell? ⟨b0, o0 + 18, none⟩ = some (.int .u64 (a6 : Int)) ∧ V.cell? ⟨b0, o0 + 22, none⟩ = some (bv)
theorem SV.after {b0 o0 a0 a1 a2 a3 a4 a5 a6 : Nat} {bv : Value} {V V' : World} (h : SV b0 o0 a0 a1 a2 a3 a4 a5 a6 bv V) (hb : Below V.heap.size V V') (hl : b0 < V.heap.size) : SV b0 o0 a0 a1 a2 a3 a4 a5 a6 bv V' := by
  have hc := fun o => hb.cell (p := ⟨b0, o, none⟩) hl
  obtain ⟨h0, h1, h2, h3, h4, h5, h6, h7⟩ := h
  exact ⟨(hc _).trans h0, (hc _).trans h1, (hc _).trans h2, (hc _).trans h3, (hc _).trans h4, (hc _).trans h5, (hc _).trans h6, (hc _).trans h7⟩
theorem SV.grown {b0 o0 a0 a1 a2 a3 a4 a5 a6 R : Nat} {bv : Value} {V V' : World} (h : SV b0 o0 a0 a1 a2 a3 a4 a5 a6 bv V) (hg : V.grownBy V' (some R)) (hl : b0 < V.heap.size) (hne : b0 ≠ R) : SV b0 o0 a0 a1 a2 a3 a4 a5 a6 bv V' := by
  have hc := fun o => World.cell?_of_block (a := ⟨b0, o, none⟩) (hg.block b0 hl (fun e => hne (by cases e; rfl)))
  obtain ⟨h0, h1, h2, h3, h4, h5, h6, h7⟩ := h
  exact ⟨(hc _).trans h0, (hc _).trans h1, (hc _).trans h2, (hc _).trans h3, (hc _).trans h4, (hc _).trans h5, (hc _).trans h6, (hc _).trans h7⟩
set_option maxRecDepth 100000 in
set_option maxHeartbeats 8000000 in
theorem refUnwrap_any (x : Value) (b : List UInt8) (w : World) (hS : Seg w x b) (hm : b.length ≤ 100000000) :
    Calls Tryd.prog 10 #[x] w fun e w' => unwPost w b e w' := by
  have hB0 := (Below.refl w.heap.size w).alloc (Nat.le_refl _) (.cells #[.int .i64 0, .int .i64 0, .int .i64 0, .int .i64 0, .int .i64 0, .slice none 0 0] 25)
  have kR0 := Blk.new w 25 #[.int .i64 0, .int .i64 0, .int .i64 0, .int .i64 0, .int .i64 0, .slice none 0 0]
  have HO := refOpen_any x b _ hm (hS.alloc (.cells #[.int .i64 0, .int .i64 0, .int .i64 0, .int .i64 0, .int .i64 0, .slice none 0 0] 25))
  have HDF : Hid (∀ V, Calls Tryd.prog 21 #[] V fun e w' => ∃ v, e = .returned v ∧ Flds w' 1 v dgF ∧ Below V.heap.size V w') := fun V => packetR_any V
  obtain ⟨ax, cx, rfl⟩ := hS.shapeD
  obtain ⟨R, hR⟩ : ∃ R, R = w.heap.size := ⟨_, rfl⟩
  have HRE : Hid (R = w.heap.size) := hR
  rw [← hR] at kR0
  obtain ⟨WA, hWA⟩ : ∃ WA, WA = w.alloc (.cells #[.int .i64 0, .int .i64 0, .int .i64 0, .int .i64 0, .int .i64 0, .slice none 0 0] 25) := ⟨_, rfl⟩
  have HWA : Hid (w.alloc (.cells #[.int .i64 0, .int .i64 0, .int .i64 0, .int .i64 0, .int .i64 0, .slice none 0 0] 25) = WA) := hWA.symm
  rw [← hWA] at HO hB0 kR0
  clear hWA
  obtain ⟨s, hs⟩ : ∃ s, s = (openOf b).getD [] := ⟨_, rfl⟩
  obtain ⟨is, his⟩ : ∃ is, is = (openOf b).isSome := ⟨_, rfl⟩
  rw [← hs, ← his] at HO
  have HSI : Hid ((is = true → openOf b = some s) ∧ (is = false → openOf b = none)) := by
    refine ⟨fun h => ?_, fun h => ?_⟩
    · rw [his] at h
      obtain ⟨y, hy⟩ := Option.isSome_iff_exists.1 h
      rw [hs, hy]; rfl
    · rw [his] at h
      cases e : openOf b with
      | none => rfl
      | some y => rw [e] at h; cases h
  have HO : Hid (Calls Tryd.prog 26 #[.slice ax b.length cx] WA fun e w' => ∃ v, e = .returned (.tuple #[v, .bool is]) ∧ Own w' WA.heap.size v s ∧ Below WA.heap.size WA w') := HO
  clear hS hm hs his
  go_enter Tryd.func10, Tryd.ntmps10
  go_wp2_with fail
  rw [← hR, HWA.out]
  clear hR
  refine HO.out.mono ?_
  rintro e w1 ⟨v1, rfl, ho1, hb1⟩
  have hB1 := hB0.trans (hb1.mono hB0.size)
  have kR1 := kR0.below hb1 kR0.lt
  clear hb1 hB0 kR0 HO
  have HML : Hid (s.length ≤ maxLen) := ho1.maxL
  obtain ⟨sa, sc, e1⟩ := ho1.seg.shapeD
  subst e1
  go_wp2_with fail
  refine (HDF.out _).mono ?_
  rintro e w2 ⟨lv, rfl, hF2, hb2⟩
  have hB2 := hB1.trans (hb2.mono hB1.size)
  have kR2 := kR1.below hb2 kR1.lt
  have hs2 := ho1.seg.below hb2 (Nat.le_refl _)
  clear hb2 hB1 kR1 HDF ho1
  have HDC := refDecode_any 1 lv dgF _ s w2 hF2 hs2 HML.out
  obtain ⟨al, cl, e2, _, _⟩ := hF2.form
  subst e2
  cases hdt : decTop dgF s with
  | error c =>
    obtain ⟨rfl, _⟩ := dg_err hdt
    have HW : Hid (unwIs b none) := by
      show unwIs b none
      cases is with
      | false => exact unw_closed (HSI.out.2 rfl)
      | true => exact unw_norec (HSI.out.1 rfl) hdt
    rw [hdt] at HDC
    have HDC : Hid (Calls Tryd.prog 27 #[.slice al dgF.length cl, .slice sa s.length sc] w2 fun e w' => e = .returned (.tuple #[.slice none 0 0, .int .i64 2]) ∧ Below w2.heap.size w2 w') := HDC
    clear hdt hF2 hs2 HSI
    go_wp2_with fail
    refine HDC.out.mono ?_
    rintro e w3 ⟨rfl, hb3⟩
    have hB3 := hB2.trans (hb3.mono hB2.size)
    have kR3 := kR2.below hb3 kR2.lt
    clear hb3 hB2 kR2 HDC
    cases is with
    | false =>
      go_wp2_with (refine store_blk rfl 25 _ _ rfl rfl R #[.int .i64 0, .int .i64 0, .int .i64 0, .int .i64 0, .int .i64 0, .slice none 0 0] rfl rfl 25 _ kR3 info_pktW rfl (by simp [Value.oneCell']) ?_; intro WS kS hgS _)
      have hBS : Below w.heap.size w WS := below_grown hB3 hgS hB3.size (fun q hq => by cases hq; exact Nat.le_of_eq HRE.out.symm)
      refine bodyPost_ret (results_fourW Tryd.results10 _ _ R 25 #[.int .i64 0, .int .i64 0, .int .i64 0, .int .i64 0, .int .i64 0, .slice none 0 0] (0, 0) _ _ _ _ rfl rfl rfl rfl kS Tryd.underlying25 rfl info_pktW) rfl ?_
      exact unwPost_bad HW.out hBS
    | true =>
      go_wp2_with (refine store_blk rfl 25 _ _ rfl rfl R #[.int .i64 0, .int .i64 0, .int .i64 0, .int .i64 0, .int .i64 0, .slice none 0 0] rfl rfl 25 _ kR3 info_pktW rfl (by simp [Value.oneCell']) ?_; intro WS kS hgS _)
      have hBS : Below w.heap.size w WS := below_grown hB3 hgS hB3.size (fun q hq => by cases hq; exact Nat.le_of_eq HRE.out.symm)
      refine bodyPost_ret (results_fourW Tryd.results10 _ _ R 25 #[.int .i64 0, .int .i64 0, .int .i64 0, .int .i64 0, .int .i64 0, .slice none 0 0] (0, 0) _ _ _ _ rfl rfl rfl rfl kS Tryd.underlying25 rfl info_pktW) rfl ?_
      exact unwPost_bad HW.out hBS
  | ok v =>
    obtain ⟨f, t, p, rfl, hd⟩ := dg_dec hdt
    rw [hdt] at HDC
    have HDC : Hid (Calls Tryd.prog 27 #[.slice al dgF.length cl, .slice sa s.length sc] w2 fun e w' => (∃ val, e = .returned (.tuple #[val, .int .i64 0]) ∧ ValsK w' (fun b => w2.heap.size ≤ b) 4 val (dgV f t p)) ∧ Below w2.heap.size w2 w') := HDC
    have hgood := fun h1 h => unw_good (HSI.out.1 h1) hd h
    have hbad := fun h1 h => unw_bad (HSI.out.1 h1) hd h
    obtain ⟨_, _, _, ⟨f1, t1, c1, d1, e1, g1, i1⟩, hf2, ht2, hbl, ⟨c2, d2, e2, g2, i2⟩, he⟩ := hd
    have HMB : Hid (p.b.length ≤ maxLen) := (by unfold maxLen; omega : p.b.length ≤ maxLen)
    have HRT : Hid (∀ ab cb V, Calls Tryd.prog 19 #[.agg #[.int .i64 p.k, .int .i64 p.f, .int .i64 p.t, .int .i64 p.s, .int .i64 p.a, .slice ab p.b.length cb]] V fun e w' => e = .returned (.bool (rightK p)) ∧ Below V.heap.size V w') := fun ab cb V => rightR_any p ab cb V
    obtain ⟨pk, pf, pt, ps, pa, bs⟩ := p
    simp only at *
    obtain ⟨a0, rfl⟩ : ∃ a : Nat, f = (a : Int) := ⟨f.toNat, by omega⟩
    obtain ⟨a1, rfl⟩ : ∃ a : Nat, t = (a : Int) := ⟨t.toNat, by omega⟩
    obtain ⟨a2, rfl⟩ : ∃ a : Nat, pk = (a : Int) := ⟨pk.toNat, by omega⟩
    obtain ⟨a3, rfl⟩ : ∃ a : Nat, pf = (a : Int) := ⟨pf.toNat, by omega⟩
    obtain ⟨a4, rfl⟩ : ∃ a : Nat, pt = (a : Int) := ⟨pt.toNat, by omega⟩
    obtain ⟨a5, rfl⟩ : ∃ a : Nat, ps = (a : Int) := ⟨ps.toNat, by omega⟩
    obtain ⟨a6, rfl⟩ : ∃ a : Nat, pa = (a : Int) := ⟨pa.toNat, by omega⟩
    have HCV0 : Hid (∀ V, (convert 56 3 (.int .u64 (a0 : Int))).run Tryd.prog V = .ok (.int .i64 (a0 : Int)) V) := conv_i64W a0 (by omega)
    have HCV1 : Hid (∀ V, (convert 56 3 (.int .u64 (a1 : Int))).run Tryd.prog V = .ok (.int .i64 (a1 : Int)) V) := conv_i64W a1 (by omega)
    have HCV2 : Hid (∀ V, (convert 56 3 (.int .u64 (a2 : Int))).run Tryd.prog V = .ok (.int .i64 (a2 : Int)) V) := conv_i64W a2 (by omega)
    have HCV3 : Hid (∀ V, (convert 56 3 (.int .u64 (a3 : Int))).run Tryd.prog V = .ok (.int .i64 (a3 : Int)) V) := conv_i64W a3 (by omega)
    have HCV4 : Hid (∀ V, (convert 56 3 (.int .u64 (a4 : Int))).run Tryd.prog V = .ok (.int .i64 (a4 : Int)) V) := conv_i64W a4 (by omega)
    have HCV5 : Hid (∀ V, (convert 56 3 (.int .u64 (a5 : Int))).run Tryd.prog V = .ok (.int .i64 (a5 : Int)) V) := conv_i64W a5 (by omega)
    have HCV6 : Hid (∀ V, (convert 56 3 (.int .u64 (a6 : Int))).run Tryd.prog V = .ok (.int .i64 (a6 : Int)) V) := conv_i64W a6 (by omega)
    have hdv : dgV (a0 : Int) (a1 : Int) ⟨a2, a3, a4, a5, a6, bs⟩ = recV [a0, a1, a2, a3, a4, a5, a6] (some bs) := rfl
    rw [hdv] at HDC
    have HGOOD : Hid (is = true → rightK ⟨a2, a3, a4, a5, a6, bs⟩ = true → unwIs b (some ⟨a0, a1, ⟨a2, a3, a4, a5, a6, bs⟩⟩)) := hgood
    have HBAD : Hid (is = true → rightK ⟨a2, a3, a4, a5, a6, bs⟩ = false → unwIs b none) := hbad
    clear hdt hF2 hs2 hgood hbad f1 t1 c1 d1 e1 g1 i1 hf2 ht2 hbl c2 d2 e2 g2 i2 he hdv
    go_wp2_with fail
    refine HDC.out.mono ?_
    rintro e w3 ⟨⟨vv, rfl, hvk⟩, hb3⟩
    have hB3 := hB2.trans (hb3.mono hB2.size)
    have kR3 := kR2.below hb3 kR2.lt
    have hV3 := hvk _ (Agree.refl _ _)
    have HVK : Hid (ValsK w3 (fun b => w2.heap.size ≤ b) 4 vv (recV [a0, a1, a2, a3, a4, a5, a6] (some bs)) ∧ R < w2.heap.size) := ⟨hvk, kR2.lt⟩
    clear hb3 hB2 kR2 HDC hvk
    cases is with
    | false =>
      have HW : Hid (unwIs b none) := unw_closed (HSI.out.2 rfl)
      obtain ⟨av, nv, cv, e3⟩ := vals_form hV3
      subst e3
      clear HSI HGOOD HBAD hV3 HVK HRT
      go_wp2_with (refine store_blk rfl 25 _ _ rfl rfl R #[.int .i64 0, .int .i64 0, .int .i64 0, .int .i64 0, .int .i64 0, .slice none 0 0] rfl rfl 25 _ kR3 info_pktW rfl (by simp [Value.oneCell']) ?_; intro WS kS hgS _)
      have hBS : Below w.heap.size w WS := below_grown hB3 hgS hB3.size (fun q hq => by cases hq; exact Nat.le_of_eq HRE.out.symm)
      refine bodyPost_ret (results_fourW Tryd.results10 _ _ R 25 #[.int .i64 0, .int .i64 0, .int .i64 0, .int .i64 0, .int .i64 0, .slice none 0 0] (0, 0) _ _ _ _ rfl rfl rfl rfl kS Tryd.underlying25 rfl info_pktW) rfl ?_
      exact unwPost_bad HW.out hBS
    | true =>
      obtain ⟨ao, c0, hv, _, hat⟩ := hV3
      have hv : vv = .slice ao 8 c0 := hv
      subst hv
      obtain ⟨b0, o0, rfl, hbl0, _, hat⟩ := hat (by show 0 < 8; decide)
      obtain ⟨bv, x7, hs7, _⟩ := (hat 7 (.mk 0 bs []) rfl).2.1
      have x7 : w3.cell? ⟨b0, o0 + 22, none⟩ = some bv := x7
      obtain ⟨ab, cb, rfl⟩ := hs7.shapeD
      have hSV : SV b0 o0 a0 a1 a2 a3 a4 a5 a6 (.slice ab bs.length cb) w3 := ⟨(hat 0 (.mk a0 [] []) rfl).1, (hat 1 (.mk a1 [] []) rfl).1, (hat 2 (.mk a2 [] []) rfl).1, (hat 3 (.mk a3 [] []) rfl).1, (hat 4 (.mk a4 [] []) rfl).1, (hat 5 (.mk a5 [] []) rfl).1, (hat 6 (.mk a6 [] []) rfl).1, x7⟩
      have HBV : Hid (∃ b off c, Value.slice (some ⟨b0, o0, none⟩) 8 c0 = .slice (some ⟨b, off, none⟩) 8 c ∧ b < w3.heap.size ∧ w3.cell? ⟨b, off + 22, none⟩ = some (.slice ab bs.length cb)) := ⟨b0, o0, c0, rfl, hbl0, x7⟩
      have HIX0 : Hid (∀ V, (Instr.indexAt 52 (.slice (some ⟨b0, o0, none⟩) 8 c0) (.int .i64 0)).run Tryd.prog V = .ok (.pointer (some ⟨b0, o0, none⟩)) V) := fun V => index_values b0 o0 8 c0 0 V (by decide)
      have HIX1 : Hid (∀ V, (Instr.indexAt 52 (.slice (some ⟨b0, o0, none⟩) 8 c0) (.int .i64 1)).run Tryd.prog V = .ok (.pointer (some ⟨b0, o0 + 3, none⟩)) V) := fun V => index_values b0 o0 8 c0 1 V (by decide)
      have HIX2 : Hid (∀ V, (Instr.indexAt 52 (.slice (some ⟨b0, o0, none⟩) 8 c0) (.int .i64 2)).run Tryd.prog V = .ok (.pointer (some ⟨b0, o0 + 6, none⟩)) V) := fun V => index_values b0 o0 8 c0 2 V (by decide)
      have HIX3 : Hid (∀ V, (Instr.indexAt 52 (.slice (some ⟨b0, o0, none⟩) 8 c0) (.int .i64 3)).run Tryd.prog V = .ok (.pointer (some ⟨b0, o0 + 9, none⟩)) V) := fun V => index_values b0 o0 8 c0 3 V (by decide)
      have HIX4 : Hid (∀ V, (Instr.indexAt 52 (.slice (some ⟨b0, o0, none⟩) 8 c0) (.int .i64 4)).run Tryd.prog V = .ok (.pointer (some ⟨b0, o0 + 12, none⟩)) V) := fun V => index_values b0 o0 8 c0 4 V (by decide)
      have HIX5 : Hid (∀ V, (Instr.indexAt 52 (.slice (some ⟨b0, o0, none⟩) 8 c0) (.int .i64 5)).run Tryd.prog V = .ok (.pointer (some ⟨b0, o0 + 15, none⟩)) V) := fun V => index_values b0 o0 8 c0 5 V (by decide)
      have HIX6 : Hid (∀ V, (Instr.indexAt 52 (.slice (some ⟨b0, o0, none⟩) 8 c0) (.int .i64 6)).run Tryd.prog V = .ok (.pointer (some ⟨b0, o0 + 18, none⟩)) V) := fun V => index_values b0 o0 8 c0 6 V (by decide)
      have HIX7 : Hid (∀ V, (Instr.indexAt 52 (.slice (some ⟨b0, o0, none⟩) 8 c0) (.int .i64 7)).run Tryd.prog V = .ok (.pointer (some ⟨b0, o0 + 21, none⟩)) V) := fun V => index_values b0 o0 8 c0 7 V (by decide)
      have HNB : Hid (b0 ≠ R) := by
        show b0 ≠ R
        intro e
        subst e
        have hx := hSV.1
        match o0, hx with
        | 0, hx => rw [kR3.cell (j := 0) rfl] at hx; cases hx
        | 1, hx => rw [kR3.cell (j := 1) rfl] at hx; cases hx
        | 2, hx => rw [kR3.cell (j := 2) rfl] at hx; cases hx
        | 3, hx => rw [kR3.cell (j := 3) rfl] at hx; cases hx
        | 4, hx => rw [kR3.cell (j := 4) rfl] at hx; cases hx
        | 5, hx => rw [kR3.cell (j := 5) rfl] at hx; cases hx
        | o + 6, hx =>
          unfold Blk at kR3
          simp [World.cell?, kR3] at hx
      obtain ⟨w5, hw5⟩ : ∃ w5, w5 = w3 := ⟨_, rfl⟩
      rw [← hw5] at kR3 hB3 hSV hbl0 HVK HBV ⊢
      clear hw5 hat x7 hs7
      have HBL5 : Hid (b0 < w5.heap.size) := hbl0
      go_wp2_with fail
      have hS0 : SV b0 o0 a0 a1 a2 a3 a4 a5 a6 (.slice ab bs.length cb) w5.drew := hSV
      refine held_begin (fun V => SV b0 o0 a0 a1 a2 a3 a4 a5 a6 (.slice ab bs.length cb) V) (by kernel_rfl) ?_
      refine held_take 0 30 _ (.slice (some ⟨b0, o0, none⟩) 8 c0) rfl rfl (by kernel_rfl) (by kernel_rfl) (by kernel_rfl) rfl hS0 (fun _ _ => rfl) ?_
      simp only [Act.put, List.setIfInBounds_toArray, List.set_cons_succ, List.set_cons_zero]
      refine held_take 1 31 _ (.pointer (some ⟨b0, o0 + 6, none⟩)) rfl rfl (by kernel_rfl) (by kernel_rfl) (by kernel_rfl) rfl hS0 (fun V _ => exec_indexat 52 _ _ rfl (.slice (some ⟨b0, o0, none⟩) 8 c0) (.int .i64 2) (.pointer (some ⟨b0, o0 + 6, none⟩)) rfl rfl (HIX2.out V)) ?_
      simp only [Act.put, List.setIfInBounds_toArray, List.set_cons_succ, List.set_cons_zero]
      refine held_take 2 32 _ (.pointer (some ⟨b0, o0 + 6, none⟩)) rfl rfl (by kernel_rfl) (by kernel_rfl) (by kernel_rfl) rfl hS0 (fun _ _ => rfl) ?_
      simp only [Act.put, List.setIfInBounds_toArray, List.set_cons_succ, List.set_cons_zero]
      refine held_take 3 33 _ (.int .u64 (a2 : Int)) rfl rfl (by kernel_rfl) (by kernel_rfl) (by kernel_rfl) rfl hS0 (fun V hV => exec_loadc 56 _ rfl _ _ rfl (load_one 56 (fun _ => by kernel_rfl) V _ _ _ (hV.2.2.1))) ?_
      simp only [Act.put, List.setIfInBounds_toArray, List.set_cons_succ, List.set_cons_zero]
      refine held_take 4 34 _ (.int .i64 (a2 : Int)) rfl rfl (by kernel_rfl) (by kernel_rfl) (by kernel_rfl) rfl hS0 (fun V _ => exec_conv 56 3 _ rfl (.int .u64 (a2 : Int)) (.int .i64 (a2 : Int)) rfl (HCV2.out V)) ?_
      simp only [Act.put, List.setIfInBounds_toArray, List.set_cons_succ, List.set_cons_zero]
      refine held_take 5 35 _ (.slice (some ⟨b0, o0, none⟩) 8 c0) rfl rfl (by kernel_rfl) (by kernel_rfl) (by kernel_rfl) rfl hS0 (fun _ _ => rfl) ?_
      simp only [Act.put, List.setIfInBounds_toArray, List.set_cons_succ, List.set_cons_zero]
      refine held_take 6 36 _ (.pointer (some ⟨b0, o0 + 9, none⟩)) rfl rfl (by kernel_rfl) (by kernel_rfl) (by kernel_rfl) rfl hS0 (fun V _ => exec_indexat 52 _ _ rfl (.slice (some ⟨b0, o0, none⟩) 8 c0) (.int .i64 3) (.pointer (some ⟨b0, o0 + 9, none⟩)) rfl rfl (HIX3.out V)) ?_
      simp only [Act.put, List.setIfInBounds_toArray, List.set_cons_succ, List.set_cons_zero]
      refine held_take 7 37 _ (.pointer (some ⟨b0, o0 + 9, none⟩)) rfl rfl (by kernel_rfl) (by kernel_rfl) (by kernel_rfl) rfl hS0 (fun _ _ => rfl) ?_
      simp only [Act.put, List.setIfInBounds_toArray, List.set_cons_succ, List.set_cons_zero]
      refine held_take 8 38 _ (.int .u64 (a3 : Int)) rfl rfl (by kernel_rfl) (by kernel_rfl) (by kernel_rfl) rfl hS0 (fun V hV => exec_loadc 56 _ rfl _ _ rfl (load_one 56 (fun _ => by kernel_rfl) V _ _ _ (hV.2.2.2.1))) ?_
      simp only [Act.put, List.setIfInBounds_toArray, List.set_cons_succ, List.set_cons_zero]
      refine held_take 9 39 _ (.int .i64 (a3 : Int)) rfl rfl (by kernel_rfl) (by kernel_rfl) (by kernel_rfl) rfl hS0 (fun V _ => exec_conv 56 3 _ rfl (.int .u64 (a3 : Int)) (.int .i64 (a3 : Int)) rfl (HCV3.out V)) ?_
      simp only [Act.put, List.setIfInBounds_toArray, List.set_cons_succ, List.set_cons_zero]
      refine held_take 10 40 _ (.slice (some ⟨b0, o0, none⟩) 8 c0) rfl rfl (by kernel_rfl) (by kernel_rfl) (by kernel_rfl) rfl hS0 (fun _ _ => rfl) ?_
      simp only [Act.put, List.setIfInBounds_toArray, List.set_cons_succ, List.set_cons_zero]
      refine held_take 11 41 _ (.pointer (some ⟨b0, o0 + 12, none⟩)) rfl rfl (by kernel_rfl) (by kernel_rfl) (by kernel_rfl) rfl hS0 (fun V _ => exec_indexat 52 _ _ rfl (.slice (some ⟨b0, o0, none⟩) 8 c0) (.int .i64 4) (.pointer (some ⟨b0, o0 + 12, none⟩)) rfl rfl (HIX4.out V)) ?_
      simp only [Act.put, List.setIfInBounds_toArray, List.set_cons_succ, List.set_cons_zero]
      refine held_take 12 42 _ (.pointer (some ⟨b0, o0 + 12, none⟩)) rfl rfl (by kernel_rfl) (by kernel_rfl) (by kernel_rfl) rfl hS0 (fun _ _ => rfl) ?_
      simp only [Act.put, List.setIfInBounds_toArray, List.set_cons_succ, List.set_cons_zero]
      refine held_take 13 43 _ (.int .u64 (a4 : Int)) rfl rfl (by kernel_rfl) (by kernel_rfl) (by kernel_rfl) rfl hS0 (fun V hV => exec_loadc 56 _ rfl _ _ rfl (load_one 56 (fun _ => by kernel_rfl) V _ _ _ (hV.2.2.2.2.1))) ?_
      simp only [Act.put, List.setIfInBounds_toArray, List.set_cons_succ, List.set_cons_zero]
      refine held_take 14 44 _ (.int .i64 (a4 : Int)) rfl rfl (by kernel_rfl) (by kernel_rfl) (by kernel_rfl) rfl hS0 (fun V _ => exec_conv 56 3 _ rfl (.int .u64 (a4 : Int)) (.int .i64 (a4 : Int)) rfl (HCV4.out V)) ?_
      simp only [Act.put, List.setIfInBounds_toArray, List.set_cons_succ, List.set_cons_zero]
      refine held_take 15 45 _ (.slice (some ⟨b0, o0, none⟩) 8 c0) rfl rfl (by kernel_rfl) (by kernel_rfl) (by kernel_rfl) rfl hS0 (fun _ _ => rfl) ?_
      simp only [Act.put, List.setIfInBounds_toArray, List.set_cons_succ, List.set_cons_zero]
      refine held_take 16 46 _ (.pointer (some ⟨b0, o0 + 15, none⟩)) rfl rfl (by kernel_rfl) (by kernel_rfl) (by kernel_rfl) rfl hS0 (fun V _ => exec_indexat 52 _ _ rfl (.slice (some ⟨b0, o0, none⟩) 8 c0) (.int .i64 5) (.pointer (some ⟨b0, o0 + 15, none⟩)) rfl rfl (HIX5.out V)) ?_
      simp only [Act.put, List.setIfInBounds_toArray, List.set_cons_succ, List.set_cons_zero]
      refine held_take 17 47 _ (.pointer (some ⟨b0, o0 + 15, none⟩)) rfl rfl (by kernel_rfl) (by kernel_rfl) (by kernel_rfl) rfl hS0 (fun _ _ => rfl) ?_
      simp only [Act.put, List.setIfInBounds_toArray, List.set_cons_succ, List.set_cons_zero]
      refine held_take 18 48 _ (.int .u64 (a5 : Int)) rfl rfl (by kernel_rfl) (by kernel_rfl) (by kernel_rfl) rfl hS0 (fun V hV => exec_loadc 56 _ rfl _ _ rfl (load_one 56 (fun _ => by kernel_rfl) V _ _ _ (hV.2.2.2.2.2.1))) ?_
      simp only [Act.put, List.setIfInBounds_toArray, List.set_cons_succ, List.set_cons_zero]
      refine held_take 19 49 _ (.int .i64 (a5 : Int)) rfl rfl (by kernel_rfl) (by kernel_rfl) (by kernel_rfl) rfl hS0 (fun V _ => exec_conv 56 3 _ rfl (.int .u64 (a5 : Int)) (.int .i64 (a5 : Int)) rfl (HCV5.out V)) ?_
      simp only [Act.put, List.setIfInBounds_toArray, List.set_cons_succ, List.set_cons_zero]
      refine held_take 20 50 _ (.slice (some ⟨b0, o0, none⟩) 8 c0) rfl rfl (by kernel_rfl) (by kernel_rfl) (by kernel_rfl) rfl hS0 (fun _ _ => rfl) ?_
      simp only [Act.put, List.setIfInBounds_toArray, List.set_cons_succ, List.set_cons_zero]
      refine held_take 21 51 _ (.pointer (some ⟨b0, o0 + 18, none⟩)) rfl rfl (by kernel_rfl) (by kernel_rfl) (by kernel_rfl) rfl hS0 (fun V _ => exec_indexat 52 _ _ rfl (.slice (some ⟨b0, o0, none⟩) 8 c0) (.int .i64 6) (.pointer (some ⟨b0, o0 + 18, none⟩)) rfl rfl (HIX6.out V)) ?_
      simp only [Act.put, List.setIfInBounds_toArray, List.set_cons_succ, List.set_cons_zero]
      refine held_take 22 52 _ (.pointer (some ⟨b0, o0 + 18, none⟩)) rfl rfl (by kernel_rfl) (by kernel_rfl) (by kernel_rfl) rfl hS0 (fun _ _ => rfl) ?_
      simp only [Act.put, List.setIfInBounds_toArray, List.set_cons_succ, List.set_cons_zero]
      refine held_take 23 53 _ (.int .u64 (a6 : Int)) rfl rfl (by kernel_rfl) (by kernel_rfl) (by kernel_rfl) rfl hS0 (fun V hV => exec_loadc 56 _ rfl _ _ rfl (load_one 56 (fun _ => by kernel_rfl) V _ _ _ (hV.2.2.2.2.2.2.1))) ?_
      simp only [Act.put, List.setIfInBounds_toArray, List.set_cons_succ, List.set_cons_zero]
      refine held_take 24 54 _ (.int .i64 (a6 : Int)) rfl rfl (by kernel_rfl) (by kernel_rfl) (by kernel_rfl) rfl hS0 (fun V _ => exec_conv 56 3 _ rfl (.int .u64 (a6 : Int)) (.int .i64 (a6 : Int)) rfl (HCV6.out V)) ?_
      simp only [Act.put, List.setIfInBounds_toArray, List.set_cons_succ, List.set_cons_zero]
      refine held_take 25 55 _ (.slice (some ⟨b0, o0, none⟩) 8 c0) rfl rfl (by kernel_rfl) (by kernel_rfl) (by kernel_rfl) rfl hS0 (fun _ _ => rfl) ?_
      simp only [Act.put, List.setIfInBounds_toArray, List.set_cons_succ, List.set_cons_zero]
      refine held_take 26 56 _ (.pointer (some ⟨b0, o0 + 21, none⟩)) rfl rfl (by kernel_rfl) (by kernel_rfl) (by kernel_rfl) rfl hS0 (fun V _ => exec_indexat 52 _ _ rfl (.slice (some ⟨b0, o0, none⟩) 8 c0) (.int .i64 7) (.pointer (some ⟨b0, o0 + 21, none⟩)) rfl rfl (HIX7.out V)) ?_
      simp only [Act.put, List.setIfInBounds_toArray, List.set_cons_succ, List.set_cons_zero]
      refine held_take 27 57 _ (.pointer (some ⟨b0, o0 + 22, none⟩)) rfl rfl (by kernel_rfl) (by kernel_rfl) (by kernel_rfl) rfl hS0 (fun _ _ => rfl) ?_
      simp only [Act.put, List.setIfInBounds_toArray, List.set_cons_succ, List.set_cons_zero]
      refine held_take 28 58 _ (.slice ab bs.length cb) rfl rfl (by kernel_rfl) (by kernel_rfl) (by kernel_rfl) rfl hS0 (fun V hV => exec_loadc 23 _ rfl _ _ rfl (load_one 23 (fun _ => by kernel_rfl) V _ _ _ (hV.2.2.2.2.2.2.2))) ?_
      simp only [Act.put, List.setIfInBounds_toArray, List.set_cons_succ, List.set_cons_zero]
      refine held_take 29 59 _ (.agg #[.int .i64 (a2 : Int), .int .i64 (a3 : Int), .int .i64 (a4 : Int), .int .i64 (a5 : Int), .int .i64 (a6 : Int), .slice ab bs.length cb]) rfl rfl (by kernel_rfl) (by kernel_rfl) (by kernel_rfl) rfl hS0 (fun V _ => exec_buildW 25 #[(0, .tmp 34), (1, .tmp 39), (2, .tmp 44), (3, .tmp 49), (4, .tmp 54), (5, .tmp 58)] rfl _ (built_pkt6 a2 a3 a4 a5 a6 ab bs.length cb)) ?_
      simp only [Act.put, List.setIfInBounds_toArray, List.set_cons_succ, List.set_cons_zero]
      have hS1 : (fun V : World => SV b0 o0 a0 a1 a2 a3 a4 a5 a6 (.slice ab bs.length cb) V) (w5.drew.alloc (.cells #[.int .i64 0, .int .i64 0, .int .i64 0, .int .i64 0, .int .i64 0, .slice none 0 0] 25)) := SV.after hS0 ((Below.refl w5.heap.size w5.drew).alloc (Nat.le_refl _) _) HBL5.out
      refine held_all1 30 (by kernel_rfl) (op_value 30 10 _ (.pointer (some ⟨w5.drew.heap.size, 0, none⟩)) (w5.drew.alloc (.cells #[.int .i64 0, .int .i64 0, .int .i64 0, .int .i64 0, .int .i64 0, .slice none 0 0] 25)) rfl rfl rfl (exec_allocP rfl) ⟨hS1, ?_⟩)
      simp only [Act.put, List.setIfInBounds_toArray, List.set_cons_succ, List.set_cons_zero]
      refine held_all1 31 (by kernel_rfl) (op_row 31 _ rfl rfl rfl 25 _ _ rfl w5.drew.heap.size #[.int .i64 (a2 : Int), .int .i64 (a3 : Int), .int .i64 (a4 : Int), .int .i64 (a5 : Int), .int .i64 (a6 : Int), .slice ab bs.length cb] rfl rfl 25 _ (Blk.new _ _ _) info_pktW rfl (by simp [Value.oneCell']) ?_)
      intro W6 kD6 hg6 hz6
      have hb6 : Below w5.heap.size w5 W6 := below_grown ((Below.refl w5.heap.size w5).drew.alloc (Nat.le_refl _) _) hg6 (by simp) (fun q hq => by cases hq; simp)
      have hS6 : (fun V : World => SV b0 o0 a0 a1 a2 a3 a4 a5 a6 (.slice ab bs.length cb) V) W6 := SV.after (V := w5) hS0 hb6 HBL5.out
      refine ⟨hS6, ?_⟩
      refine wpAnyH_done (by kernel_rfl) ?_ _
      refine NoPanic.normal ?_
      have hB6 := hB3.trans (hb6.mono hB3.size)
      have kR6 := kR3.below hb6 kR3.lt
      have HB56 : Hid (Below w5.heap.size w5 W6) := hb6
      have HZ6 : Hid (w5.drew.heap.size ≠ R) := by show _ ≠ R; have := kR3.lt; simp; omega
      obtain ⟨D, hD⟩ : ∃ D, D = w5.drew.heap.size := ⟨_, rfl⟩
      have HDR : Hid (D ≠ R) := by rw [hD]; exact HZ6.out
      rw [← hD] at kD6 ⊢
      clear hD hb6 hg6 hz6 hS0 hS1 hB3 kR3 hSV hbl0
      have k0 := kD6.cell (j := 0) rfl
      have k1 := kD6.cell (j := 1) rfl
      have k2 := kD6.cell (j := 2) rfl
      have k3 := kD6.cell (j := 3) rfl
      have k4 := kD6.cell (j := 4) rfl
      have k5 := kD6.cell (j := 5) rfl
      have HBL6 : Hid (b0 < W6.heap.size) := Nat.lt_of_lt_of_le HBL5.out HB56.out.size
      go_wp2_with fail
      refine (HRT.out _ _ _).mono ?_
      rintro e w8 ⟨rfl, hb8⟩
      have hB8 := hB6.trans (hb8.mono hB6.size)
      have kR8 := kR6.below hb8 kR6.lt
      have kD8 := kD6.below hb8 kD6.lt
      have hS8 := SV.after hS6 hb8 HBL6.out
      have HB58 : Hid (Below w5.heap.size w5 w8) := HB56.out.trans (hb8.mono HB56.out.size)
      have HBL9 : Hid (b0 < w8.drew.heap.size) := Nat.lt_of_lt_of_le HBL6.out hb8.size
      clear hb8 hB6 kR6 kD6 hS6 HRT k0 k1 k2 k3 k4 k5
      cases hr : rightK ⟨a2, a3, a4, a5, a6, bs⟩ with
      | false =>
        have HW : Hid (unwIs b none) := HBAD.out trivial hr
        clear hr
        go_wp2_with (refine store_blk rfl 25 _ _ rfl rfl R #[.int .i64 0, .int .i64 0, .int .i64 0, .int .i64 0, .int .i64 0, .slice none 0 0] rfl rfl 25 _ kR8 info_pktW rfl (by simp [Value.oneCell']) ?_; intro WS kS hgS _)
        have hBS : Below w.heap.size w WS := below_grown hB8 hgS hB8.size (fun q hq => by cases hq; exact Nat.le_of_eq HRE.out.symm)
        refine bodyPost_ret (results_fourW Tryd.results10 _ _ R 25 #[.int .i64 0, .int .i64 0, .int .i64 0, .int .i64 0, .int .i64 0, .slice none 0 0] (0, 0) _ _ _ _ rfl rfl rfl rfl kS Tryd.underlying25 rfl info_pktW) rfl ?_
        exact unwPost_bad HW.out hBS
      | true =>
        have HW : Hid (unwIs b (some ⟨a0, a1, ⟨a2, a3, a4, a5, a6, bs⟩⟩)) := HGOOD.out trivial hr
        clear hr
        go_wp2_with fail
        have hS9 : SV b0 o0 a0 a1 a2 a3 a4 a5 a6 (.slice ab bs.length cb) w8.drew ∧ Blk w8.drew D 25 #[.int .i64 (a2 : Int), .int .i64 (a3 : Int), .int .i64 (a4 : Int), .int .i64 (a5 : Int), .int .i64 (a6 : Int), .slice ab bs.length cb] := ⟨hS8, kD8.drew⟩
        refine held_begin (fun V => SV b0 o0 a0 a1 a2 a3 a4 a5 a6 (.slice ab bs.length cb) V ∧ Blk V D 25 #[.int .i64 (a2 : Int), .int .i64 (a3 : Int), .int .i64 (a4 : Int), .int .i64 (a5 : Int), .int .i64 (a6 : Int), .slice ab bs.length cb]) (by kernel_rfl) ?_
        refine held_take 0 65 _ (.slice (some ⟨b0, o0, none⟩) 8 c0) rfl rfl (by kernel_rfl) (by kernel_rfl) (by kernel_rfl) rfl hS9 (fun _ _ => rfl) ?_
        simp only [Act.put, List.setIfInBounds_toArray, List.set_cons_succ, List.set_cons_zero]
        refine held_take 1 66 _ (.pointer (some ⟨b0, o0, none⟩)) rfl rfl (by kernel_rfl) (by kernel_rfl) (by kernel_rfl) rfl hS9 (fun V _ => exec_indexat 52 _ _ rfl (.slice (some ⟨b0, o0, none⟩) 8 c0) (.int .i64 0) (.pointer (some ⟨b0, o0, none⟩)) rfl rfl (HIX0.out V)) ?_
        simp only [Act.put, List.setIfInBounds_toArray, List.set_cons_succ, List.set_cons_zero]
        refine held_take 2 67 _ (.pointer (some ⟨b0, o0, none⟩)) rfl rfl (by kernel_rfl) (by kernel_rfl) (by kernel_rfl) rfl hS9 (fun _ _ => rfl) ?_
        simp only [Act.put, List.setIfInBounds_toArray, List.set_cons_succ, List.set_cons_zero]
        refine held_take 3 68 _ (.int .u64 (a0 : Int)) rfl rfl (by kernel_rfl) (by kernel_rfl) (by kernel_rfl) rfl hS9 (fun V hV => exec_loadc 56 _ rfl _ _ rfl (load_one 56 (fun _ => by kernel_rfl) V _ _ _ (hV.1.1))) ?_
        simp only [Act.put, List.setIfInBounds_toArray, List.set_cons_succ, List.set_cons_zero]
        refine held_take 4 69 _ (.int .i64 (a0 : Int)) rfl rfl (by kernel_rfl) (by kernel_rfl) (by kernel_rfl) rfl hS9 (fun V _ => exec_conv 56 3 _ rfl (.int .u64 (a0 : Int)) (.int .i64 (a0 : Int)) rfl (HCV0.out V)) ?_
        simp only [Act.put, List.setIfInBounds_toArray, List.set_cons_succ, List.set_cons_zero]
        refine held_take 5 70 _ (.slice (some ⟨b0, o0, none⟩) 8 c0) rfl rfl (by kernel_rfl) (by kernel_rfl) (by kernel_rfl) rfl hS9 (fun _ _ => rfl) ?_
        simp only [Act.put, List.setIfInBounds_toArray, List.set_cons_succ, List.set_cons_zero]
        refine held_take 6 71 _ (.pointer (some ⟨b0, o0 + 3, none⟩)) rfl rfl (by kernel_rfl) (by kernel_rfl) (by kernel_rfl) rfl hS9 (fun V _ => exec_indexat 52 _ _ rfl (.slice (some ⟨b0, o0, none⟩) 8 c0) (.int .i64 1) (.pointer (some ⟨b0, o0 + 3, none⟩)) rfl rfl (HIX1.out V)) ?_
        simp only [Act.put, List.setIfInBounds_toArray, List.set_cons_succ, List.set_cons_zero]
        refine held_take 7 72 _ (.pointer (some ⟨b0, o0 + 3, none⟩)) rfl rfl (by kernel_rfl) (by kernel_rfl) (by kernel_rfl) rfl hS9 (fun _ _ => rfl) ?_
        simp only [Act.put, List.setIfInBounds_toArray, List.set_cons_succ, List.set_cons_zero]
        refine held_take 8 73 _ (.int .u64 (a1 : Int)) rfl rfl (by kernel_rfl) (by kernel_rfl) (by kernel_rfl) rfl hS9 (fun V hV => exec_loadc 56 _ rfl _ _ rfl (load_one 56 (fun _ => by kernel_rfl) V _ _ _ (hV.1.2.1))) ?_
        simp only [Act.put, List.setIfInBounds_toArray, List.set_cons_succ, List.set_cons_zero]
        refine held_take 9 74 _ (.int .i64 (a1 : Int)) rfl rfl (by kernel_rfl) (by kernel_rfl) (by kernel_rfl) rfl hS9 (fun V _ => exec_conv 56 3 _ rfl (.int .u64 (a1 : Int)) (.int .i64 (a1 : Int)) rfl (HCV1.out V)) ?_
        simp only [Act.put, List.setIfInBounds_toArray, List.set_cons_succ, List.set_cons_zero]
        refine held_take 10 75 _ (.agg #[.int .i64 (a2 : Int), .int .i64 (a3 : Int), .int .i64 (a4 : Int), .int .i64 (a5 : Int), .int .i64 (a6 : Int), .slice ab bs.length cb]) rfl rfl (by kernel_rfl) (by kernel_rfl) (by kernel_rfl) rfl hS9 (fun V hV => exec_loadA 25 _ rfl D _ _ rfl hV.2 Tryd.underlying25 rfl info_pktW) ?_
        simp only [Act.put, List.setIfInBounds_toArray, List.set_cons_succ, List.set_cons_zero]
        refine held_take 11 2 _ (.int .i64 (a0 : Int)) rfl rfl (by kernel_rfl) (by kernel_rfl) (by kernel_rfl) rfl hS9 (fun _ _ => rfl) ?_
        simp only [Act.put, List.setIfInBounds_toArray, List.set_cons_succ, List.set_cons_zero]
        refine held_take 12 3 _ (.int .i64 (a1 : Int)) rfl rfl (by kernel_rfl) (by kernel_rfl) (by kernel_rfl) rfl hS9 (fun _ _ => rfl) ?_
        simp only [Act.put, List.setIfInBounds_toArray, List.set_cons_succ, List.set_cons_zero]
        refine held_all1 13 (by kernel_rfl) (op_row 13 _ rfl rfl rfl 25 _ _ rfl R #[.int .i64 (a2 : Int), .int .i64 (a3 : Int), .int .i64 (a4 : Int), .int .i64 (a5 : Int), .int .i64 (a6 : Int), .slice ab bs.length cb] rfl rfl 25 _ kR8.drew info_pktW rfl (by simp [Value.oneCell']) ?_)
        intro W9 kR9 hg9 _
        have hB9 : Below w.heap.size w W9 := below_grown hB8.drew hg9 hB8.drew.size (fun q hq => by cases hq; exact Nat.le_of_eq HRE.out.symm)
        have hS10 : (fun V : World => SV b0 o0 a0 a1 a2 a3 a4 a5 a6 (.slice ab bs.length cb) V ∧ Blk V D 25 #[.int .i64 (a2 : Int), .int .i64 (a3 : Int), .int .i64 (a4 : Int), .int .i64 (a5 : Int), .int .i64 (a6 : Int), .slice ab bs.length cb]) W9 := ⟨SV.grown hS9.1 hg9 HBL9.out HNB.out, hS9.2.grown hg9 (by simpa using HDR.out)⟩
        refine ⟨hS10, ?_⟩
        refine held_take 14 5 _ (.int .i64 0) rfl rfl (by kernel_rfl) (by kernel_rfl) (by kernel_rfl) rfl hS10 (fun _ _ => rfl) ?_
        simp only [Act.put, List.setIfInBounds_toArray, List.set_cons_succ, List.set_cons_zero]
        refine wpAnyH_done (by kernel_rfl) ?_ _
        refine NoPanic.normal ?_
        go_wp2
        refine bodyPost_ret (results_fourW Tryd.results10 _ _ R 25 #[.int .i64 (a2 : Int), .int .i64 (a3 : Int), .int .i64 (a4 : Int), .int .i64 (a5 : Int), .int .i64 (a6 : Int), .slice ab bs.length cb] (0, 0) _ _ _ _ rfl rfl rfl rfl kR9 Tryd.underlying25 rfl info_pktW) rfl ?_
        exact ⟨⟨a0, a1, ⟨a2, a3, a4, a5, a6, bs⟩⟩, ab, cb, 0, rfl, body_late HVK.out.1 HVK.out.2 HBV.out (HB58.out.drew) hg9 kR9, HMB.out, .inl ⟨rfl, HW.out⟩, hB9⟩
end Go.Proofs.YtpebjocmnojldaaDoor
