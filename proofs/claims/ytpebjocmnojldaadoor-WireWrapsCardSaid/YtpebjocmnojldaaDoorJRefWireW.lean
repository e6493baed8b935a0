/-
  What is proved here: the document's own Wrap of layer 14.
  Conditions: what comes in lies in memory.
-/
import Derived.Test.YtpebjocmnojldaaDoorJRefWire
namespace Go.Proofs.YtpebjocmnojldaaDoor
open Go.RowKit

/-- One is put behind a slice of the call's own, from a block that is known. -/
theorem app_atW (t e : TypeId) (z : Value) (size bytes : Nat) (ht : Tryd.prog.underlying t = some (.slice e)) (hz : (Tryd.prog.info? e).map (fun i => (i.zero, i.size, i.bytes)) = some (some z, size, bytes)) (hzs : z.cells.size = size) (hsz : 0 < size) (hby : bytes ≤ 100) (w : World) (base n : Nat) (v : Value) (xs news : List Value) (hown : w.ownsRow base e size v n xs) (g : Nat) (hk : Blk w g e news.toArray) (hl : news.length = size) (h1 : ∀ u ∈ news, u.oneCell' = true) (hn : n ≤ 1000000) (hbase : base ≤ w.heap.size) :
    ∃ v' W', (∀ ty, (Builtin.append_ #[t, t] ty #[v, .slice (some ⟨g, 0, none⟩) 1 1]).run Tryd.prog w = .ok v' W') ∧ W'.ownsRow base e size v' (n + 1) (xs ++ news) ∧ w.grownBy W' v.ownBlock := by
  obtain ⟨i0, hi, hz0, hz1, hz2⟩ := info_partsW hz
  obtain ⟨v', w', h0, h2, h3, _, _⟩ := run_append_own_at (P := Tryd.prog) _ base t t e i0 z size bytes ht hi hz0 hz1 hz2 hzs hsz v n xs hown ⟨g, 0, none⟩ 1 1 news (by omega) (fun j y hy => by
    rw [Addr.add_mid, Nat.zero_add]
    exact hk.cell (by simpa using hy)) h1 (by unfold maxLen; omega) (by
      have : (n + 1) * bytes ≤ (n + 1) * 100 := Nat.mul_le_mul_left _ hby
      omega) hbase
  exact ⟨v', w', fun ty => h0, h2, h3⟩
theorem index_intsW (g len c I : Nat) (h : I < len) (w : World) : (Instr.indexAt 55 (.slice (some ⟨g, 0, none⟩) len c) (.int .i64 (I : Int))).run Tryd.prog w = .ok (.pointer (some ⟨g, I, none⟩)) w := by
  have hs : ∀ w, (sizeOf 3).run Tryd.prog w = .ok 1 w := fun w => by kernel_rfl
  have hu : Tryd.prog.underlying 55 = some (.slice 3) := by kernel_rfl
  have hi : (0 : Int) ≤ (I : Int) ∧ (I : Int) < (len : Int) := by omega
  simp [Instr.indexAt, asIntOf, run_underlying hu, hs, hi, Addr.add_mid]
  intro h2
  omega
theorem built_valB (ao : Option Addr) (n c : Nat) : Tryd.prog.built 59 [(1, .slice ao n c)] = some #[.int .u64 0, .slice ao n c, .slice none 0 0] := by kernel_rfl
theorem exec_valB {a : Act} {o : Oper} {w : World} (x0 : Operand) (ho : o.op = .buildSlice 52 1 #[(0, x0)]) (ao : Option Addr) (n c : Nat) (h0 : a.eval x0 = .agg #[.int .u64 0, .slice ao n c, .slice none 0 0]) :
    (execOp a.eval o).run Tryd.prog w = .ok (.value (.slice (some ⟨w.heap.size, 0, none⟩) 1 1)) (w.alloc (.cells #[.int .u64 0, .slice ao n c, .slice none 0 0] 59)) := by
  unfold execOp
  have e : Array.map (fun y : Nat × Operand => (y.1, a.eval y.2)) #[(0, x0)] = #[(0, .agg #[.int .u64 0, .slice ao n c, .slice none 0 0])] := by simp [h0]
  simp only [ho, e]
  simp [go_sem]
theorem exec_noneW {a : Act} {o : Oper} {w : World} (f : FuncId) (ts : Array TypeId) (ho : o.op = .call { callee := .value (.func f), args := #[], argTypes := ts }) (hc : ∀ args w, (callFunc f args).run Tryd.prog w = .ok (.enter f args) w) : (execOp a.eval o).run Tryd.prog w = .ok (.enter f #[]) w := by
  have he : a.eval (.func f) = .func (.func f) #[] #[] := rfl
  unfold execOp
  simp [ho, resolve, invoke, Deferred.ofValue, he, hc]
set_option maxRecDepth 100000 in
set_option maxHeartbeats 8000000 in
theorem refWrap_any (f t : Int) (p : KP) (ax : Option Addr) (cx : Nat) (w : World) (hS : Seg w (.slice ax p.b.length cx) p.b) (hm : p.b.length ≤ maxLen) :
    Calls Tryd.prog 8 #[.int .i64 f, .int .i64 t, kpV p (.slice ax p.b.length cx)] w fun e w' => encodePost w (wrapO f t p) e w' := by
  have HRT : Hid (∀ V, Calls Tryd.prog 19 #[.agg #[.int .i64 p.k, .int .i64 p.f, .int .i64 p.t, .int .i64 p.s, .int .i64 p.a, .slice ax p.b.length cx]] V fun e w' => e = .returned (.bool (rightK p)) ∧ Below V.heap.size V w') := fun V => rightR_any p ax cx V
  have hB0 := (Below.refl w.heap.size w).alloc (Nat.le_refl _) (.cells #[.int .i64 p.k, .int .i64 p.f, .int .i64 p.t, .int .i64 p.s, .int .i64 p.a, .slice ax p.b.length cx] 25)
  have kB0 := Blk.new w 25 #[.int .i64 p.k, .int .i64 p.f, .int .i64 p.t, .int .i64 p.s, .int .i64 p.a, .slice ax p.b.length cx]
  obtain ⟨B, hB⟩ : ∃ B, B = w.heap.size := ⟨_, rfl⟩
  rw [← hB] at kB0
  have HBE : Hid (B = w.heap.size) := hB
  have HSB : Hid (∀ V, Below w.heap.size w V → Seg V (.slice ax p.b.length cx) p.b) := fun V hV => hS.below hV (Nat.le_refl _)
  unfold kpV kpL
  obtain ⟨RS, hRS⟩ : ∃ RS, RS = wrapO f t p := ⟨_, rfl⟩
  rw [← hRS]
  have HRS : Hid (RS = wrapO f t p) := hRS
  clear hS hRS
  have k0 := kB0.cell (j := 0) rfl
  have k1 := kB0.cell (j := 1) rfl
  have k2 := kB0.cell (j := 2) rfl
  have k3 := kB0.cell (j := 3) rfl
  have k4 := kB0.cell (j := 4) rfl
  have k5 := kB0.cell (j := 5) rfl
  go_enter Tryd.func8, Tryd.ntmps8
  go_wp2_with fail
  rw [← hB]
  clear hB
  generalize w.alloc (.cells #[.int .i64 p.k, .int .i64 p.f, .int .i64 p.t, .int .i64 p.s, .int .i64 p.a, .slice ax p.b.length cx] 25) = WA at *
  refine (HRT.out _).mono ?_
  rintro e w1 ⟨rfl, hb1⟩
  have hB1 := hB0.trans (hb1.mono hB0.size)
  have kB1 := kB0.below hb1 kB0.lt
  clear hb1 hB0 kB0 k0 k1 k2 k3 k4 k5 HRT
  cases hr : rightK p with
  | false =>
    have hno : RS = none := HRS.out.trans (if_neg fun h => by have := h.2.2; rw [show rightK p = true from decide_eq_true this] at hr; cases hr)
    subst hno
    clear hr kB1 HSB hm HRS
    go_wp2
    go_ret2
    exact ⟨rfl, hB1⟩
  | true =>
    have hpo : p.ok := of_decide_eq_true hr
    clear hr
    by_cases h0 : f < 0
    · have d0 : decide (f < 0) = true := decide_eq_true h0
      have hno : RS = none := HRS.out.trans (if_neg fun h => by have := h.1.1; omega)
      subst hno
      clear hpo h0 kB1 HSB hm HRS
      go_wp2
      go_ret2
      exact ⟨rfl, hB1⟩
    have d0 : decide (f < 0) = false := decide_eq_false h0
    by_cases h1 : 4096 < f
    · have d1 : decide (4096 < f) = true := decide_eq_true h1
      have hno : RS = none := HRS.out.trans (if_neg fun h => by have := h.1.2; omega)
      subst hno
      clear hpo h0 h1 kB1 HSB hm HRS
      go_wp2
      go_ret2
      exact ⟨rfl, hB1⟩
    have d1 : decide (4096 < f) = false := decide_eq_false h1
    by_cases h2 : t < 0
    · have d2 : decide (t < 0) = true := decide_eq_true h2
      have hno : RS = none := HRS.out.trans (if_neg fun h => by have := h.2.1.1; omega)
      subst hno
      clear hpo h0 h1 h2 kB1 HSB hm HRS
      go_wp2
      go_ret2
      exact ⟨rfl, hB1⟩
    have d2 : decide (t < 0) = false := decide_eq_false h2
    by_cases h3 : 4096 < t
    · have d3 : decide (4096 < t) = true := decide_eq_true h3
      have hno : RS = none := HRS.out.trans (if_neg fun h => by have := h.2.1.2; omega)
      subst hno
      clear hpo h0 h1 h2 h3 kB1 HSB hm HRS
      go_wp2
      go_ret2
      exact ⟨rfl, hB1⟩
    have d3 : decide (4096 < t) = false := decide_eq_false h3
    have hok : dgOk f t p := ⟨⟨by omega, by omega⟩, ⟨by omega, by omega⟩, hpo⟩
    obtain ⟨x, hx, hxl, hwx⟩ := dg_some hok
    obtain ⟨⟨f1, f2⟩, ⟨t1, t2⟩, ⟨c1, c2⟩, cb, ⟨e1, e2⟩, ⟨g1, g2⟩, ⟨i1, i2⟩, ⟨j1, j2⟩, _, _⟩ := hok
    have HRES : Hid (RS = some (sealB x)) := HRS.out.trans hwx
    have HX : Hid (encTop dgF (dgV f t p) = some x ∧ x.length ≤ 1048576) := ⟨hx, hxl⟩
    obtain ⟨pk, pf, pt, ps, pa, pb⟩ := p
    simp only at *
    obtain ⟨a0, rfl⟩ : ∃ a : Nat, f = (a : Int) := ⟨f.toNat, by omega⟩
    obtain ⟨a1, rfl⟩ : ∃ a : Nat, t = (a : Int) := ⟨t.toNat, by omega⟩
    obtain ⟨a2, rfl⟩ : ∃ a : Nat, pk = (a : Int) := ⟨pk.toNat, by omega⟩
    obtain ⟨a3, rfl⟩ : ∃ a : Nat, pf = (a : Int) := ⟨pf.toNat, by omega⟩
    obtain ⟨a4, rfl⟩ : ∃ a : Nat, pt = (a : Int) := ⟨pt.toNat, by omega⟩
    obtain ⟨a5, rfl⟩ : ∃ a : Nat, ps = (a : Int) := ⟨ps.toNat, by omega⟩
    obtain ⟨a6, rfl⟩ : ∃ a : Nat, pa = (a : Int) := ⟨pa.toNat, by omega⟩
    have hdv : dgV (a0 : Int) (a1 : Int) ⟨a2, a3, a4, a5, a6, pb⟩ = recV [a0, a1, a2, a3, a4, a5, a6] (some pb) := rfl
    rw [hdv] at HX
    have HE : Hid (∀ V lv vv, Flds V 1 lv dgF → Vals V 1 vv (recV [a0, a1, a2, a3, a4, a5, a6] (some pb)) → Calls Tryd.prog 20 #[lv, vv] V fun e w' => ∃ b, e = .returned (.tuple #[b, .int .i64 0]) ∧ Own w' V.heap.size b x ∧ Below V.heap.size V w') := fun V lv vv h1 h2 => (refEncode_any 1 lv dgF 1 vv _ V h1 h2).mono fun e w' h => by
      rw [HX.out.1] at h
      obtain ⟨⟨b, hb, ho⟩, hb2⟩ := h
      exact ⟨b, hb, ho, hb2⟩
    have HDF : Hid (∀ V, Calls Tryd.prog 21 #[] V fun e w' => ∃ g, e = .returned (.slice (some ⟨g, 0, none⟩) 8 8) ∧ V.heap.size ≤ g ∧ Blk w' g 72 (fldsW dgN (some 1500)).toArray ∧ Below V.heap.size V w') := fun V => packetB_any V
    have HX64 : Hid (∀ y ∈ [a0, a1, a2, a3, a4, a5, a6], y < 9223372036854775808) := fun y hy => by
      simp only [List.mem_cons, List.not_mem_nil, or_false] at hy
      rcases hy with rfl | rfl | rfl | rfl | rfl | rfl | rfl <;> omega
    have k0 : w1.cell? ⟨B, 0, none⟩ = some (.int .i64 (a2 : Int)) := kB1.cell (j := 0) rfl
    have k1 : w1.cell? ⟨B, 1, none⟩ = some (.int .i64 (a3 : Int)) := kB1.cell (j := 1) rfl
    have k2 : w1.cell? ⟨B, 2, none⟩ = some (.int .i64 (a4 : Int)) := kB1.cell (j := 2) rfl
    have k3 : w1.cell? ⟨B, 3, none⟩ = some (.int .i64 (a5 : Int)) := kB1.cell (j := 3) rfl
    have k4 : w1.cell? ⟨B, 4, none⟩ = some (.int .i64 (a6 : Int)) := kB1.cell (j := 4) rfl
    have HPB : Hid (pb.length ≤ maxLen) := hm
    clear h0 h1 h2 h3 hpo hx hxl hwx f1 f2 t1 t2 c1 c2 cb e1 e2 g1 g2 i1 i2 j1 j2 hdv hm HRS
    obtain ⟨G, hG⟩ : ∃ G, G = w1.heap.size := ⟨_, rfl⟩
    have kL := Blk.new w1 3 #[.int .i64 (a0 : Int), .int .i64 (a1 : Int), .int .i64 (a2 : Int), .int .i64 (a3 : Int), .int .i64 (a4 : Int), .int .i64 (a5 : Int), .int .i64 (a6 : Int)]
    have kB2 := kB1.alloc (.cells #[.int .i64 (a0 : Int), .int .i64 (a1 : Int), .int .i64 (a2 : Int), .int .i64 (a3 : Int), .int .i64 (a4 : Int), .int .i64 (a5 : Int), .int .i64 (a6 : Int)] 3)
    have hB2 := hB1.alloc hB1.size (.cells #[.int .i64 (a0 : Int), .int .i64 (a1 : Int), .int .i64 (a2 : Int), .int .i64 (a3 : Int), .int .i64 (a4 : Int), .int .i64 (a5 : Int), .int .i64 (a6 : Int)] 3)
    rw [← hG] at kL
    go_wp2_with fail
    rw [← hG]
    clear hG k0 k1 k2 k3 k4 kB1 hB1
    generalize w1.alloc (.cells #[.int .i64 (a0 : Int), .int .i64 (a1 : Int), .int .i64 (a2 : Int), .int .i64 (a3 : Int), .int .i64 (a4 : Int), .int .i64 (a5 : Int), .int .i64 (a6 : Int)] 3) = w2 at *
    have HLC : Hid (∀ j, j < 7 → w2.cell? ⟨G, j, none⟩ = some (.int .i64 (([a0, a1, a2, a3, a4, a5, a6].getD j 0 : Nat) : Int))) := fun j hj => by
      match j, hj with
      | 0, _ => exact kL.cell (j := 0) rfl
      | 1, _ => exact kL.cell (j := 1) rfl
      | 2, _ => exact kL.cell (j := 2) rfl
      | 3, _ => exact kL.cell (j := 3) rfl
      | 4, _ => exact kL.cell (j := 4) rfl
      | 5, _ => exact kL.cell (j := 5) rfl
      | 6, _ => exact kL.cell (j := 6) rfl
    have HGL : Hid (G < w2.heap.size ∧ B < w2.heap.size) := ⟨kL.lt, kB2.lt⟩
    have HB2 : Hid (Below w.heap.size w w2) := hB2
    have HKB : Hid (Blk w2 B 25 #[.int .i64 (a2 : Int), .int .i64 (a3 : Int), .int .i64 (a4 : Int), .int .i64 (a5 : Int), .int .i64 (a6 : Int), .slice ax pb.length cx]) := kB2
    clear kL kB2 hB2
    go_loopw [10, 11] (fun v i wr => ∃ j : Nat, i = .int .i64 (j : Int) ∧ j ≤ 7 ∧ wr.ownsRow w2.heap.size 59 3 v j (valWs ([a0, a1, a2, a3, a4, a5, a6].take j)) ∧ Below w2.heap.size w2 wr) (fun _ i _ => 7 - (intOf i).toNat)
    case atStart => exact ⟨0, rfl, Nat.zero_le _, ⟨rfl, .inl ⟨rfl, rfl⟩⟩, Below.refl _ _⟩
    case round =>
      obtain ⟨j, rfl, hj, hown, hBr⟩ := hrel
      by_cases hlt : j < 7
      · have cj := (hBr.cell (p := ⟨G, j, none⟩) HGL.out.1).trans (HLC.out j hlt)
        have ix := index_intsW G 7 7 j hlt
        obtain ⟨Y, hY⟩ : ∃ Y, Y = [a0, a1, a2, a3, a4, a5, a6].getD j 0 := ⟨_, rfl⟩
        rw [← hY] at cj
        have hmem : Y ∈ [a0, a1, a2, a3, a4, a5, a6] := by
          have hl7 : j < [a0, a1, a2, a3, a4, a5, a6].length := hlt
          rw [hY, List.getD_eq_getElem?_getD, List.getElem?_eq_getElem hl7]
          exact List.getElem_mem hl7
        have cv := conv_u64W Y (by have := HX64.out Y hmem; omega)
        have HTK : Hid ([a0, a1, a2, a3, a4, a5, a6].take (j + 1) = [a0, a1, a2, a3, a4, a5, a6].take j ++ [Y]) := by
          have hl7 : j < [a0, a1, a2, a3, a4, a5, a6].length := hlt
          show _ = _
          rw [List.take_succ_eq_append_getElem hl7, hY, List.getD_eq_getElem?_getD, List.getElem?_eq_getElem hl7]
          rfl
        have i1 : (j : Int) < 7 := by omega
        have HJ : Hid (j < 7) := hlt
        have hwj : IntKind.i64.wrap ((j : Int) + 1) = (j : Int) + 1 := by rw [IntKind.wrap_i64]; omega
        obtain ⟨v4, W4, hr4, ho4, -, hb4⟩ := app_oneW 52 59 _ 3 56 under_valsW info_valW3 rfl (by decide) (by decide) wr w2.heap.size j _ _ [.int .u64 (Y : Int), .slice none 0 0, .slice none 0 0] hown rfl (valWs_one Y) (by omega) hBr.size
        have HB4 := hb4 (Nat.le_refl _) hBr hBr.size
        rw [← valWs_snoc, ← HTK.out] at ho4
        have HO4 : Hid (W4.ownsRow w2.heap.size 59 3 v4 (j + 1) (valWs ([a0, a1, a2, a3, a4, a5, a6].take (j + 1)))) := ho4
        clear hown ho4 hb4 hBr hlt hj hmem hY
        go_wp2_with (at_builtin; refine app_ranW _ W4 rfl _ _ 52 rfl _ _ v4 rfl rfl hr4 ?_)
        go_roundw
        case rel => exact ⟨j + 1, by go_num, HJ.out, HO4.out, HB4⟩
        case measure => have := HJ.out; simp [intOf]; omega
      · obtain rfl : j = 7 := by omega
        have hown : wr.ownsRow w2.heap.size 59 3 u10 7 (valWs [a0, a1, a2, a3, a4, a5, a6]) := hown
        have kBr := HKB.out.below hBr HGL.out.2
        have HBR : Hid (Below w.heap.size w wr) := HB2.out.trans (hBr.mono HB2.out.size)
        have HSZ : Hid (w2.heap.size ≤ wr.heap.size) := hBr.size
        have HOB : Hid (∀ q, u10.ownBlock = some q → w2.heap.size ≤ q ∧ q < wr.heap.size) := World.ownsRow.lt hown
        have HBN : Hid (some B ≠ u10.ownBlock) := fun e => by have := (HOB.out B e.symm).1; have := HGL.out.2; omega
        clear hlt hj hBr
        go_wp2_with fail
        have hS0 : Blk wr.drew B 25 #[.int .i64 (a2 : Int), .int .i64 (a3 : Int), .int .i64 (a4 : Int), .int .i64 (a5 : Int), .int .i64 (a6 : Int), .slice ax pb.length cx] := kBr.drew
        have hown0 : wr.drew.ownsRow w2.heap.size 59 3 u10 7 (valWs [a0, a1, a2, a3, a4, a5, a6]) := hown
        have hB0 := HBR.out.drew
        have hz0 : w2.heap.size ≤ wr.drew.heap.size := HSZ.out
        refine held_begin (fun V => Blk V B 25 #[.int .i64 (a2 : Int), .int .i64 (a3 : Int), .int .i64 (a4 : Int), .int .i64 (a5 : Int), .int .i64 (a6 : Int), .slice ax pb.length cx]) (by kernel_rfl) ?_
        refine held_take 1 64 _ (u10) rfl rfl (by kernel_rfl) (by kernel_rfl) (by kernel_rfl) rfl hS0 (fun _ _ => rfl) ?_
        simp only [Act.put, List.setIfInBounds_toArray, List.set_cons_succ, List.set_cons_zero]
        refine held_take 2 65 _ (.pointer (some ⟨B, 5, none⟩)) rfl rfl (by kernel_rfl) (by kernel_rfl) (by kernel_rfl) rfl hS0 (fun _ _ => rfl) ?_
        simp only [Act.put, List.setIfInBounds_toArray, List.set_cons_succ, List.set_cons_zero]
        refine held_take 3 66 _ (.slice ax pb.length cx) rfl rfl (by kernel_rfl) (by kernel_rfl) (by kernel_rfl) rfl hS0 (fun V hV => exec_loadc 23 _ rfl _ _ rfl (load_one 23 (fun _ => by kernel_rfl) V _ _ _ (hV.cell (j := 5) rfl))) ?_
        simp only [Act.put, List.setIfInBounds_toArray, List.set_cons_succ, List.set_cons_zero]
        refine held_take 4 67 _ (.agg #[.int .u64 0, .slice ax pb.length cx, .slice none 0 0]) rfl rfl (by kernel_rfl) (by kernel_rfl) (by kernel_rfl) rfl hS0 (fun V _ => exec_buildW 59 #[(1, .tmp 66)] rfl _ (built_valB ax pb.length cx)) ?_
        simp only [Act.put, List.setIfInBounds_toArray, List.set_cons_succ, List.set_cons_zero]
        refine held_all2 0 5 (by kernel_rfl) ?_ ?_
        · refine op_call 0 63 _ 21 #[] rfl rfl rfl (exec_noneW 21 _ rfl Tryd.call21) ((HDF.out _).mono ?_)
          rintro e wp ⟨gf, rfl, hgf, hFp, hbp⟩
          have HGF : Hid (some gf ≠ u10.ownBlock) := fun e => by have h1 := (HOB.out gf e.symm).2; have h2 := (hgf : wr.drew.heap.size ≤ gf); have h3 : wr.drew.heap.size = wr.heap.size := rfl; omega
          have hBp := hB0.trans (hbp.mono hB0.size)
          have hSp : Blk wp B 25 #[.int .i64 (a2 : Int), .int .i64 (a3 : Int), .int .i64 (a4 : Int), .int .i64 (a5 : Int), .int .i64 (a6 : Int), .slice ax pb.length cx] := hS0.below hbp hS0.lt
          have hzp : w2.heap.size ≤ wp.heap.size := Nat.le_trans hz0 hbp.size
          have hownp := ownsRow_belowW hown0 hbp
          refine ⟨_, rfl, hSp, ?_⟩
          simp only [Act.put, List.setIfInBounds_toArray, List.set_cons_succ, List.set_cons_zero]
          have hkb := Blk.new wp 59 [.int .u64 0, .slice ax pb.length cx, .slice none 0 0].toArray
          have hBb := hBp.alloc hBp.size (.cells [.int .u64 0, .slice ax pb.length cx, .slice none 0 0].toArray 59)
          have hownb := World.ownsRow.alloc hownp (.cells [.int .u64 0, .slice ax pb.length cx, .slice none 0 0].toArray 59)
          have hSb : Blk (wp.alloc (.cells [.int .u64 0, .slice ax pb.length cx, .slice none 0 0].toArray 59)) B 25 #[.int .i64 (a2 : Int), .int .i64 (a3 : Int), .int .i64 (a4 : Int), .int .i64 (a5 : Int), .int .i64 (a6 : Int), .slice ax pb.length cx] := hSp.alloc _
          have hzb : w2.heap.size ≤ (wp.alloc (.cells [.int .u64 0, .slice ax pb.length cx, .slice none 0 0].toArray 59)).heap.size := by rw [World.size_alloc]; have := hzp; omega
          have hFb := hFp.alloc (.cells [.int .u64 0, .slice ax pb.length cx, .slice none 0 0].toArray 59)
          obtain ⟨wb, hwb⟩ : ∃ wb, wb = wp.alloc (.cells [.int .u64 0, .slice ax pb.length cx, .slice none 0 0].toArray 59) := ⟨_, rfl⟩
          obtain ⟨gb, hgb⟩ : ∃ gb, gb = wp.heap.size := ⟨_, rfl⟩
          refine held_all1 5 (by kernel_rfl) (op_value 5 68 _ (.slice (some ⟨gb, 0, none⟩) 1 1) wb rfl rfl rfl (by rw [hgb, hwb]; exact exec_valB (.tmp 67) rfl ax pb.length cx rfl) ⟨by rw [hwb]; exact hSb, ?_⟩)
          simp only [Act.put, List.setIfInBounds_toArray, List.set_cons_succ, List.set_cons_zero]
          rw [← hgb] at hkb
          rw [← hwb] at hkb hBb hownb hSb hzb hFb
          clear hwb hgb
          obtain ⟨va, wa, hra, hoa, hga⟩ := app_atW 52 59 _ 3 56 under_valsW info_valW3 rfl (by decide) (by decide) wb w2.heap.size 7 _ _ [.int .u64 0, .slice ax pb.length cx, .slice none 0 0] hownb gb hkb rfl (byt_one ax pb.length cx) (by decide) hzb
          have hba : Below w.heap.size w wa := below_grown hBb hga hBb.size (fun q hq => Nat.le_trans HB2.out.size (HOB.out q hq).1)
          have hSa : Blk wa B 25 #[.int .i64 (a2 : Int), .int .i64 (a3 : Int), .int .i64 (a4 : Int), .int .i64 (a5 : Int), .int .i64 (a6 : Int), .slice ax pb.length cx] := hSb.grown hga HBN.out
          have hza : w2.heap.size ≤ wa.heap.size := Nat.le_trans hzb hga.size
          have hFa := hFb.grown hga HGF.out
          refine held_all1 6 (by kernel_rfl) (op_value 6 69 _ va wa rfl rfl rfl (exec_app (.tmp 64) (.tmp 68) 52 52 rfl u10 (.slice (some ⟨gb, 0, none⟩) 1 1) va rfl rfl hra) ⟨hSa, ?_⟩)
          simp only [Act.put, List.setIfInBounds_toArray, List.set_cons_succ, List.set_cons_zero]
          have hsv := HSB.out _ hba
          have hV := vals_ownB [a0, a1, a2, a3, a4, a5, a6] pb ax cx hoa hsv HPB.out (fun y hy => by have := HX64.out y hy; omega) (by show 7 ≤ 1000; decide)
          refine held_all1 7 (by kernel_rfl) (op_call 7 70 _ 20 #[.slice (some ⟨gf, 0, none⟩) 8 8, va] rfl rfl rfl (exec_two8 20 _ _ _ rfl _ _ rfl rfl Tryd.call20) ((HE.out _ _ _ (dgF_blk hFa) hV).mono ?_))
          rintro e we ⟨rv, rfl, hoe, hbe⟩
          have hBe := hba.trans (hbe.mono hba.size)
          have hSe : Blk we B 25 #[.int .i64 (a2 : Int), .int .i64 (a3 : Int), .int .i64 (a4 : Int), .int .i64 (a5 : Int), .int .i64 (a6 : Int), .slice ax pb.length cx] := hSa.below hbe hSa.lt
          refine ⟨_, rfl, hSe, ?_⟩
          simp only [Act.put, List.setIfInBounds_toArray, List.set_cons_succ, List.set_cons_zero]
          refine held_take 8 62 _ (.tuple #[rv, .int .i64 0]) rfl rfl (by kernel_rfl) (by kernel_rfl) (by kernel_rfl) rfl hSe (fun _ _ => rfl) ?_
          simp only [Act.put, List.setIfInBounds_toArray, List.set_cons_succ, List.set_cons_zero]
          refine held_take 9 71 _ (rv) rfl rfl (by kernel_rfl) (by kernel_rfl) (by kernel_rfl) rfl hSe (fun _ _ => rfl) ?_
          simp only [Act.put, List.setIfInBounds_toArray, List.set_cons_succ, List.set_cons_zero]
          refine held_take 10 72 _ (.int .i64 0) rfl rfl (by kernel_rfl) (by kernel_rfl) (by kernel_rfl) rfl hSe (fun _ _ => rfl) ?_
          simp only [Act.put, List.setIfInBounds_toArray, List.set_cons_succ, List.set_cons_zero]
          refine held_take 11 12 _ (rv) rfl rfl (by kernel_rfl) (by kernel_rfl) (by kernel_rfl) rfl hSe (fun _ _ => rfl) ?_
          simp only [Act.put, List.setIfInBounds_toArray, List.set_cons_succ, List.set_cons_zero]
          refine held_take 12 13 _ (.int .i64 0) rfl rfl (by kernel_rfl) (by kernel_rfl) (by kernel_rfl) rfl hSe (fun _ _ => rfl) ?_
          simp only [Act.put, List.setIfInBounds_toArray, List.set_cons_succ, List.set_cons_zero]
          refine wpAnyH_done (by kernel_rfl) ?_ _
          refine NoPanic.normal ?_
          obtain ⟨ra, rc, er⟩ := hoe.seg.shapeD
          subst er
          have HRL := HX.out.2
          have hBE : Hid (Below w.heap.size w we) := hBe
          have hoE : Hid (Own we we.heap.size (.slice none 0 0) []) := own_nil _ _
          clear hsv hV hSe HRL hoE
          go_wp2_with fail
          refine (refSeal_any _ x we (by have := HX.out.2; omega) hoe.seg).mono ?_
          rintro e wz ⟨vz, rfl, hoz, hbz⟩
          have hBz := hBE.out.trans (hbz.mono hBE.out.size)
          have HOZ : Hid (Own wz w.heap.size vz (sealB x)) := hoz.mono hBE.out.size
          clear hoz hbz hoe
          go_wp2
          go_ret2
          exact HRES.out ▸ ⟨⟨_, rfl, HOZ.out⟩, hBz⟩
        · have hkb := Blk.new wr.drew 59 [.int .u64 0, .slice ax pb.length cx, .slice none 0 0].toArray
          have hBb := hB0.alloc hB0.size (.cells [.int .u64 0, .slice ax pb.length cx, .slice none 0 0].toArray 59)
          have hownb := World.ownsRow.alloc hown0 (.cells [.int .u64 0, .slice ax pb.length cx, .slice none 0 0].toArray 59)
          have hSb : Blk (wr.drew.alloc (.cells [.int .u64 0, .slice ax pb.length cx, .slice none 0 0].toArray 59)) B 25 #[.int .i64 (a2 : Int), .int .i64 (a3 : Int), .int .i64 (a4 : Int), .int .i64 (a5 : Int), .int .i64 (a6 : Int), .slice ax pb.length cx] := hS0.alloc _
          have hzb : w2.heap.size ≤ (wr.drew.alloc (.cells [.int .u64 0, .slice ax pb.length cx, .slice none 0 0].toArray 59)).heap.size := by rw [World.size_alloc]; have := hz0; omega
          obtain ⟨wb, hwb⟩ : ∃ wb, wb = wr.drew.alloc (.cells [.int .u64 0, .slice ax pb.length cx, .slice none 0 0].toArray 59) := ⟨_, rfl⟩
          obtain ⟨gb, hgb⟩ : ∃ gb, gb = wr.drew.heap.size := ⟨_, rfl⟩
          refine op_value 5 68 _ (.slice (some ⟨gb, 0, none⟩) 1 1) wb rfl rfl rfl (by rw [hgb, hwb]; exact exec_valB (.tmp 67) rfl ax pb.length cx rfl) ⟨by rw [hwb]; exact hSb, ?_⟩
          simp only [Act.put, List.setIfInBounds_toArray, List.set_cons_succ, List.set_cons_zero]
          rw [← hgb] at hkb
          rw [← hwb] at hkb hBb hownb hSb hzb
          have hzw : wr.drew.heap.size ≤ wb.heap.size := by rw [hwb, World.size_alloc]; exact Nat.le_succ _
          clear hwb hgb
          refine held_all1 0 (by kernel_rfl) (op_call 0 63 _ 21 #[] rfl rfl rfl (exec_noneW 21 _ rfl Tryd.call21) ((HDF.out _).mono ?_))
          rintro e wp ⟨gf, rfl, hgf, hFp, hbp⟩
          have HGF : Hid (some gf ≠ u10.ownBlock) := fun e => by have h1 := (HOB.out gf e.symm).2; have h2 := (Nat.le_trans hzw hgf); have h3 : wr.drew.heap.size = wr.heap.size := rfl; omega
          have hBp := hBb.trans (hbp.mono hBb.size)
          have hSp : Blk wp B 25 #[.int .i64 (a2 : Int), .int .i64 (a3 : Int), .int .i64 (a4 : Int), .int .i64 (a5 : Int), .int .i64 (a6 : Int), .slice ax pb.length cx] := hSb.below hbp hSb.lt
          have hzp : w2.heap.size ≤ wp.heap.size := Nat.le_trans hzb hbp.size
          have hownp := ownsRow_belowW hownb hbp
          have hkp := hkb.below hbp hkb.lt
          refine ⟨_, rfl, hSp, ?_⟩
          simp only [Act.put, List.setIfInBounds_toArray, List.set_cons_succ, List.set_cons_zero]
          obtain ⟨va, wa, hra, hoa, hga⟩ := app_atW 52 59 _ 3 56 under_valsW info_valW3 rfl (by decide) (by decide) wp w2.heap.size 7 _ _ [.int .u64 0, .slice ax pb.length cx, .slice none 0 0] hownp gb hkp rfl (byt_one ax pb.length cx) (by decide) hzp
          have hba : Below w.heap.size w wa := below_grown hBp hga hBp.size (fun q hq => Nat.le_trans HB2.out.size (HOB.out q hq).1)
          have hSa : Blk wa B 25 #[.int .i64 (a2 : Int), .int .i64 (a3 : Int), .int .i64 (a4 : Int), .int .i64 (a5 : Int), .int .i64 (a6 : Int), .slice ax pb.length cx] := hSp.grown hga HBN.out
          have hza : w2.heap.size ≤ wa.heap.size := Nat.le_trans hzp hga.size
          have hFa := hFp.grown hga HGF.out
          refine held_all1 6 (by kernel_rfl) (op_value 6 69 _ va wa rfl rfl rfl (exec_app (.tmp 64) (.tmp 68) 52 52 rfl u10 (.slice (some ⟨gb, 0, none⟩) 1 1) va rfl rfl hra) ⟨hSa, ?_⟩)
          simp only [Act.put, List.setIfInBounds_toArray, List.set_cons_succ, List.set_cons_zero]
          have hsv := HSB.out _ hba
          have hV := vals_ownB [a0, a1, a2, a3, a4, a5, a6] pb ax cx hoa hsv HPB.out (fun y hy => by have := HX64.out y hy; omega) (by show 7 ≤ 1000; decide)
          refine held_all1 7 (by kernel_rfl) (op_call 7 70 _ 20 #[.slice (some ⟨gf, 0, none⟩) 8 8, va] rfl rfl rfl (exec_two8 20 _ _ _ rfl _ _ rfl rfl Tryd.call20) ((HE.out _ _ _ (dgF_blk hFa) hV).mono ?_))
          rintro e we ⟨rv, rfl, hoe, hbe⟩
          have hBe := hba.trans (hbe.mono hba.size)
          have hSe : Blk we B 25 #[.int .i64 (a2 : Int), .int .i64 (a3 : Int), .int .i64 (a4 : Int), .int .i64 (a5 : Int), .int .i64 (a6 : Int), .slice ax pb.length cx] := hSa.below hbe hSa.lt
          refine ⟨_, rfl, hSe, ?_⟩
          simp only [Act.put, List.setIfInBounds_toArray, List.set_cons_succ, List.set_cons_zero]
          refine held_take 8 62 _ (.tuple #[rv, .int .i64 0]) rfl rfl (by kernel_rfl) (by kernel_rfl) (by kernel_rfl) rfl hSe (fun _ _ => rfl) ?_
          simp only [Act.put, List.setIfInBounds_toArray, List.set_cons_succ, List.set_cons_zero]
          refine held_take 9 71 _ (rv) rfl rfl (by kernel_rfl) (by kernel_rfl) (by kernel_rfl) rfl hSe (fun _ _ => rfl) ?_
          simp only [Act.put, List.setIfInBounds_toArray, List.set_cons_succ, List.set_cons_zero]
          refine held_take 10 72 _ (.int .i64 0) rfl rfl (by kernel_rfl) (by kernel_rfl) (by kernel_rfl) rfl hSe (fun _ _ => rfl) ?_
          simp only [Act.put, List.setIfInBounds_toArray, List.set_cons_succ, List.set_cons_zero]
          refine held_take 11 12 _ (rv) rfl rfl (by kernel_rfl) (by kernel_rfl) (by kernel_rfl) rfl hSe (fun _ _ => rfl) ?_
          simp only [Act.put, List.setIfInBounds_toArray, List.set_cons_succ, List.set_cons_zero]
          refine held_take 12 13 _ (.int .i64 0) rfl rfl (by kernel_rfl) (by kernel_rfl) (by kernel_rfl) rfl hSe (fun _ _ => rfl) ?_
          simp only [Act.put, List.setIfInBounds_toArray, List.set_cons_succ, List.set_cons_zero]
          refine wpAnyH_done (by kernel_rfl) ?_ _
          refine NoPanic.normal ?_
          obtain ⟨ra, rc, er⟩ := hoe.seg.shapeD
          subst er
          have HRL := HX.out.2
          have hBE : Hid (Below w.heap.size w we) := hBe
          have hoE : Hid (Own we we.heap.size (.slice none 0 0) []) := own_nil _ _
          clear hsv hV hSe HRL hoE
          go_wp2_with fail
          refine (refSeal_any _ x we (by have := HX.out.2; omega) hoe.seg).mono ?_
          rintro e wz ⟨vz, rfl, hoz, hbz⟩
          have hBz := hBE.out.trans (hbz.mono hBE.out.size)
          have HOZ : Hid (Own wz w.heap.size vz (sealB x)) := hoz.mono hBE.out.size
          clear hoz hbz hoe
          go_wp2
          go_ret2
          exact HRES.out ▸ ⟨⟨_, rfl, HOZ.out⟩, hBz⟩
end Go.Proofs.YtpebjocmnojldaaDoor
