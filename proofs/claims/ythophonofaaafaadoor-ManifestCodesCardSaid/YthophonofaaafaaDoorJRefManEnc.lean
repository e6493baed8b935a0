/-
  What is proved here: the document's Encode of a manifest answers its bytes, or that it is none.
  Conditions: those that the fact names.
-/
import Derived.Test.YthophonofaaafaaDoorJRefManFlds
import Derived.Test.YthophonofaaafaaDoorJRefManRight
import Derived.Test.YthophonofaaafaaDoorJManEnc
import Derived.Test.YthophonofaaafaaDoorJManDecP
import Derived.Test.YthophonofaaafaaDoorJRefEncode
import Derived.Test.YthophonofaaafaaDoorJRefRec
namespace Go.Proofs.YthophonofaaafaaDoor
open Go.RowKit

theorem builtV0 (n : Int) : Tryd.prog.built 63 [(0, .int .u64 n)] = some #[.int .u64 n, nilS, nilS] := by kernel_rfl
theorem builtV1 (ao : Option Addr) (n c : Nat) : Tryd.prog.built 63 [(1, .slice ao n c)] = some #[.int .u64 0, .slice ao n c, nilS] := by kernel_rfl
theorem builtVZ : Tryd.prog.built 63 [] = some #[.int .u64 0, nilS, nilS] := by kernel_rfl
theorem idx4 (g : Nat) (w : World) : (Instr.indexAt 58 (.slice (some ⟨g, 0, none⟩) 5 5) (.int .i64 4)).run Tryd.prog w = .ok (.pointer (some ⟨g, 12, none⟩)) w := by
  have := index_values g 0 5 5 4 w (by omega)
  simpa using this
theorem idxW (b off len c I : Nat) (w : World) (h : I < len) : (Instr.indexAt 25 (.slice (some ⟨b, off, none⟩) len c) (.int .i64 (I : Int))).run Tryd.prog w = .ok (.pointer (some ⟨b, off + I, none⟩)) w := by
  simp [Instr.indexAt, asIntOf, run_underlying Tryd.underlying25, Addr.add_mid]
  intro hx
  omega
theorem exec_vals5 {a : Act} {o : Oper} {w : World} (x0 x1 x2 x3 x4 : Operand) (ho : o.op = .buildSlice 58 5 #[(0, x0), (1, x1), (2, x2), (3, x3), (4, x4)]) (n0 n1 n2 : Int) (h : Value)
    (h0 : a.eval x0 = .agg #[.int .u64 n0, nilS, nilS]) (h1 : a.eval x1 = .agg #[.int .u64 n1, nilS, nilS]) (h2 : a.eval x2 = .agg #[.int .u64 n2, nilS, nilS]) (h3 : a.eval x3 = .agg #[.int .u64 0, h, nilS]) (h4 : a.eval x4 = .agg #[.int .u64 0, nilS, nilS]) :
    (execOp a.eval o).run Tryd.prog w = .ok (.value (.slice (some ⟨w.heap.size, 0, none⟩) 5 5)) (w.alloc (.cells (valsA n0 n1 n2 h nilS) 63)) := by
  unfold execOp
  have e : Array.map (fun y : Nat × Operand => (y.1, a.eval y.2)) #[(0, x0), (1, x1), (2, x2), (3, x3), (4, x4)] = #[(0, .agg #[.int .u64 n0, nilS, nilS]), (1, .agg #[.int .u64 n1, nilS, nilS]), (2, .agg #[.int .u64 n2, nilS, nilS]), (3, .agg #[.int .u64 0, h, nilS]), (4, .agg #[.int .u64 0, nilS, nilS])] := by simp [h0, h1, h2, h3, h4]
  simp only [ho, e]
  simp [go_sem]
theorem exec_val1 {a : Act} {o : Oper} {w : World} (x0 : Operand) (ho : o.op = .buildSlice 58 1 #[(0, x0)]) (n0 : Int) (h0 : a.eval x0 = .agg #[.int .u64 n0, nilS, nilS]) :
    (execOp a.eval o).run Tryd.prog w = .ok (.value (.slice (some ⟨w.heap.size, 0, none⟩) 1 1)) (w.alloc (.cells #[.int .u64 n0, nilS, nilS] 63)) := by
  unfold execOp
  have e : Array.map (fun y : Nat × Operand => (y.1, a.eval y.2)) #[(0, x0)] = #[(0, .agg #[.int .u64 n0, nilS, nilS])] := by simp [h0]
  simp only [ho, e]
  simp [go_sem]
theorem exec_rec1 {a : Act} {o : Oper} {w W : World} (g : Nat) (x : Operand) (ho : o.op = .buildSlice 61 1 #[(0, x)]) (ao : Option Addr) (n c : Nat) (hx : a.eval x = .slice ao n c) (hg : w.heap.size = g) (hW : w.alloc (.cells #[.slice ao n c] 58) = W) :
    (execOp a.eval o).run Tryd.prog w = .ok (.value (.slice (some ⟨g, 0, none⟩) 1 1)) W := by
  rw [exec_build x ho ao n c hx, hg, hW]
/-- Values of a manifest that lie so. -/
theorem vals_man {wr : World} {g B0 vn sn cn base : Nat} {lv : Value} {rs : List Value} {U : List (BitVec 32)} {h : List UInt8} (kv : Blk wr g 63 (valsA vn sn cn (.slice (some ⟨B0, 3, none⟩) 32 32) lv)) (hR : Rws wr base lv rs U) (hU : U.length ≤ 128) (hh : h.length = 32) (hhs : Seg wr (.slice (some ⟨B0, 3, none⟩) 32 32) h) (h0 : vn < 18446744073709551616) (h1 : sn < 18446744073709551616) (h2 : cn < 18446744073709551616) :
    Vals wr 2 (.slice (some ⟨g, 0, none⟩) 5 5) [.mk vn [] [], .mk sn [] [], .mk cn [] [], .mk 0 h [], .mk 0 [] (U.map sumV)] := by
  have hrec := hR.recs (by omega)
  refine ⟨some ⟨g, 0, none⟩, 5, rfl, show (5 : Nat) ≤ maxLen by decide, fun _ => ⟨g, 0, rfl, kv.lt, Nat.le_refl 5, fun i x hx => ?_⟩⟩
  match i, hx with
  | 0, hx => cases hx; exact ⟨kv.cell (j := 0) rfl, ⟨_, kv.cell (j := 1) rfl, seg_nil _, Nat.zero_le _⟩, ⟨none, 0, kv.cell (j := 2) rfl, Nat.zero_le _, fun h => by simp [Val.l] at h⟩, h0⟩
  | 1, hx => cases hx; exact ⟨kv.cell (j := 3) rfl, ⟨_, kv.cell (j := 4) rfl, seg_nil _, Nat.zero_le _⟩, ⟨none, 0, kv.cell (j := 5) rfl, Nat.zero_le _, fun h => by simp [Val.l] at h⟩, h1⟩
  | 2, hx => cases hx; exact ⟨kv.cell (j := 6) rfl, ⟨_, kv.cell (j := 7) rfl, seg_nil _, Nat.zero_le _⟩, ⟨none, 0, kv.cell (j := 8) rfl, Nat.zero_le _, fun h => by simp [Val.l] at h⟩, h2⟩
  | 3, hx => cases hx; exact ⟨kv.cell (j := 9) rfl, ⟨_, kv.cell (j := 10) rfl, hhs, by show h.length ≤ maxLen; rw [hh]; decide⟩, ⟨none, 0, kv.cell (j := 11) rfl, Nat.zero_le _, fun h => by simp [Val.l] at h⟩, by show 0 < _; omega⟩
  | 4, hx =>
    cases hx
    obtain ⟨a5, c5, e5, h5, h6⟩ := hrec
    exact ⟨kv.cell (j := 12) rfl, ⟨_, kv.cell (j := 13) rfl, seg_nil _, Nat.zero_le _⟩, ⟨a5, c5, (kv.cell (j := 14) rfl).trans (by rw [e5]; rfl), h5, h6⟩, by show 0 < _; omega⟩
  | (i + 5), hx => cases hx
set_option maxRecDepth 100000 in
set_option maxHeartbeats 4000000 in
theorem rmenc_any (m : MM) (su : Value) (w : World) (hh : m.h.length = 32) (hm : m.u.length ≤ 1000000000) (hu : Wds w su m.u) :
    Calls Tryd.prog 25 #[manV m su] w fun e w' => encodePost w (encM m) e w' := by
  have hB := (Below.refl w.heap.size w).alloc (Nat.le_refl _) (.cells (manC m su) 27)
  have k := Blk.new w 27 (manC m su)
  have hi := manC_info m su hh
  have HR : Hid (Calls Tryd.prog 17 #[manV m su] (w.alloc (.cells (manC m su) 27)) fun e w' => e = .returned (.bool (decide (okM m))) ∧ Below (w.alloc (.cells (manC m su) 27)).heap.size (w.alloc (.cells (manC m su) 27)) w') := rmright_any m su _ hh hm (hu.alloc _)
  by_cases hok : okM m
  · have HE : Hid (encM m = encTop manF (manVs m)) := if_pos hok
    rw [HE.out]
    rw [decide_eq_true hok] at HR
    have hlu : m.u.length ≤ 128 := by have h1 := hok.1.2.2.2; have h2 := hok.2.1; omega
    have hl0 : 0 < m.u.length := (okM_len hok).2
    obtain ⟨⟨v1, v2⟩, ⟨s1, s2⟩, ⟨d1, d2⟩, _⟩ := hok.1
    obtain ⟨vn, hvn⟩ : ∃ n : Nat, m.v = n := ⟨m.v.toNat, by omega⟩
    obtain ⟨sn, hsn⟩ : ∃ n : Nat, m.s = n := ⟨m.s.toNat, by omega⟩
    obtain ⟨cn, hcn⟩ : ∃ n : Nat, m.c = n := ⟨m.c.toNat, by omega⟩
    have HF : Hid (∀ W, Calls Tryd.prog 42 #[] W fun e w' => ∃ v, e = .returned v ∧ Flds w' 2 v manF ∧ Below W.heap.size W w') := fun W => rmFlds_any W
    have HN : Hid (∀ W lv vv, Flds W 2 lv manF → Vals W 2 vv (manVs m) → Calls Tryd.prog 41 #[lv, vv] W fun e w' => encodePost W (encTop manF (manVs m)) e w') := fun W lv vv h1 h2 => refEncode_any 2 lv manF 2 vv (manVs m) W h1 h2
    have HMV : Hid (manVs m = [.mk vn [] [], .mk sn [] [], .mk cn [] [], .mk 0 m.h [], .mk 0 [] (m.u.map sumV)]) := by
      show _ = _
      unfold manVs
      rw [hvn, hsn, hcn]
      rfl
    have HSG : Hid (∀ V b, Blk V b 27 (manC m su) → Seg V (.slice (some ⟨b, 3, none⟩) 32 32) m.h) := fun V b hV => by
      refine Seg.of_row (fun j hj => ?_) hh (Nat.le_refl _) hV.lt
      rw [hV.cell (manC_hash m su j hj)]
    have m0 := manC_0 m su
    have m1 := manC_1 m su
    have m2 := manC_2 m su
    have m35 := manC_35 m su hh
    rw [hvn] at m0 v2
    rw [hsn] at m1 s2
    rw [hcn] at m2 d2
    have cv0 := conv_u64M vn (by omega)
    have cv1 := conv_u64M sn (by omega)
    have cv2 := conv_u64M cn (by omega)
    have HVM : Hid (∀ (wr : World) (g B0 base : Nat) (lv : Value) (rs : List Value), Blk wr g 63 (valsA vn sn cn (.slice (some ⟨B0, 3, none⟩) 32 32) lv) → Rws wr base lv rs m.u → Blk wr B0 27 (manC m su) → Vals wr 2 (.slice (some ⟨g, 0, none⟩) 5 5) (manVs m)) := fun wr g B0 base lv rs h1 h2 h3 => by
      rw [HMV.out]
      exact vals_man h1 h2 hlu hh (HSG.out wr B0 h3) (by omega) (by omega) (by omega)
    obtain ⟨ao, c, rfl, hrw⟩ := hu
    obtain ⟨sb, so, rfl, hcc, hrow, hsbl⟩ := hrw hl0
    have HCX : Hid (∀ k (hk : k < m.u.length) V, Below w.heap.size w V → V.cell? ⟨sb, so + k, none⟩ = some (v32 m.u[k])) := fun k hk V hV => (hV.cell (p := ⟨sb, so + k, none⟩) hsbl).trans (hrow k hk)
    clear HE hm hh hok hrw hrow v1 s1 d1 HMV hvn hsn hcn v2 s2 d2 HSG
    unfold manV at *
    generalize encTop manF (manVs m) = R at *
    generalize manC m (.slice (some ⟨sb, so, none⟩) m.u.length c) = MC at *
    generalize manVs m = MV at *
    generalize m.u = U at *
    obtain ⟨B0, hB0⟩ : ∃ B0, B0 = w.heap.size := ⟨_, rfl⟩
    rw [← hB0] at k
    go_enter Tryd.func25, Tryd.ntmps25
    go_wp2_with (refine wpList_load_row rfl 27 _ rfl w.heap.size rfl 27 _ (0, 0) _ (by rw [← hB0]; exact k) Tryd.underlying27 rfl hi ?_)
    refine HR.out.mono ?_
    rintro e w1 ⟨rfl, hb1⟩
    have k1 := k.below hb1 k.lt
    have hB1 : Below w.heap.size w w1 := hB.trans (hb1.mono hB.size)
    clear HR hb1 hB k
    go_wp2_with fail
    rw [← hB0]
    have HB0 : Hid (B0 = w.heap.size) := hB0
    clear hB0
    have hS0 : Blk w1.drew B0 27 MC := k1.drew
    refine held_begin (fun V => Blk V B0 27 MC) (by kernel_rfl) ?_
    refine held_take 0 11 _ (.pointer (some ⟨B0, 0, none⟩)) rfl rfl (by kernel_rfl) (by kernel_rfl) (by kernel_rfl) rfl hS0 (fun _ _ => rfl) ?_
    simp only [Act.put, List.setIfInBounds_toArray, List.set_cons_succ, List.set_cons_zero]
    refine held_take 1 12 _ (.int .i64 (vn : Int)) rfl rfl (by kernel_rfl) (by kernel_rfl) (by kernel_rfl) rfl hS0 (fun V hV => exec_loadc 3 _ rfl _ _ rfl (load_one 3 (fun _ => by kernel_rfl) V _ _ _ (hV.cell m0))) ?_
    simp only [Act.put, List.setIfInBounds_toArray, List.set_cons_succ, List.set_cons_zero]
    refine held_take 2 13 _ (.int .u64 (vn : Int)) rfl rfl (by kernel_rfl) (by kernel_rfl) (by kernel_rfl) rfl hS0 (fun V _ => exec_conv 3 60 _ rfl (.int .i64 (vn : Int)) (.int .u64 (vn : Int)) rfl (cv0 V)) ?_
    simp only [Act.put, List.setIfInBounds_toArray, List.set_cons_succ, List.set_cons_zero]
    refine held_take 3 14 _ (.agg #[.int .u64 (vn : Int), nilS, nilS]) rfl rfl (by kernel_rfl) (by kernel_rfl) (by kernel_rfl) rfl hS0 (fun V _ => exec_buildM _ _ rfl _ (builtV0 _)) ?_
    simp only [Act.put, List.setIfInBounds_toArray, List.set_cons_succ, List.set_cons_zero]
    refine held_take 4 15 _ (.pointer (some ⟨B0, 1, none⟩)) rfl rfl (by kernel_rfl) (by kernel_rfl) (by kernel_rfl) rfl hS0 (fun _ _ => rfl) ?_
    simp only [Act.put, List.setIfInBounds_toArray, List.set_cons_succ, List.set_cons_zero]
    refine held_take 5 16 _ (.int .i64 (sn : Int)) rfl rfl (by kernel_rfl) (by kernel_rfl) (by kernel_rfl) rfl hS0 (fun V hV => exec_loadc 3 _ rfl _ _ rfl (load_one 3 (fun _ => by kernel_rfl) V _ _ _ (hV.cell m1))) ?_
    simp only [Act.put, List.setIfInBounds_toArray, List.set_cons_succ, List.set_cons_zero]
    refine held_take 6 17 _ (.int .u64 (sn : Int)) rfl rfl (by kernel_rfl) (by kernel_rfl) (by kernel_rfl) rfl hS0 (fun V _ => exec_conv 3 60 _ rfl (.int .i64 (sn : Int)) (.int .u64 (sn : Int)) rfl (cv1 V)) ?_
    simp only [Act.put, List.setIfInBounds_toArray, List.set_cons_succ, List.set_cons_zero]
    refine held_take 7 18 _ (.agg #[.int .u64 (sn : Int), nilS, nilS]) rfl rfl (by kernel_rfl) (by kernel_rfl) (by kernel_rfl) rfl hS0 (fun V _ => exec_buildM _ _ rfl _ (builtV0 _)) ?_
    simp only [Act.put, List.setIfInBounds_toArray, List.set_cons_succ, List.set_cons_zero]
    refine held_take 8 19 _ (.pointer (some ⟨B0, 2, none⟩)) rfl rfl (by kernel_rfl) (by kernel_rfl) (by kernel_rfl) rfl hS0 (fun _ _ => rfl) ?_
    simp only [Act.put, List.setIfInBounds_toArray, List.set_cons_succ, List.set_cons_zero]
    refine held_take 9 20 _ (.int .i64 (cn : Int)) rfl rfl (by kernel_rfl) (by kernel_rfl) (by kernel_rfl) rfl hS0 (fun V hV => exec_loadc 3 _ rfl _ _ rfl (load_one 3 (fun _ => by kernel_rfl) V _ _ _ (hV.cell m2))) ?_
    simp only [Act.put, List.setIfInBounds_toArray, List.set_cons_succ, List.set_cons_zero]
    refine held_take 10 21 _ (.int .u64 (cn : Int)) rfl rfl (by kernel_rfl) (by kernel_rfl) (by kernel_rfl) rfl hS0 (fun V _ => exec_conv 3 60 _ rfl (.int .i64 (cn : Int)) (.int .u64 (cn : Int)) rfl (cv2 V)) ?_
    simp only [Act.put, List.setIfInBounds_toArray, List.set_cons_succ, List.set_cons_zero]
    refine held_take 11 22 _ (.agg #[.int .u64 (cn : Int), nilS, nilS]) rfl rfl (by kernel_rfl) (by kernel_rfl) (by kernel_rfl) rfl hS0 (fun V _ => exec_buildM _ _ rfl _ (builtV0 _)) ?_
    simp only [Act.put, List.setIfInBounds_toArray, List.set_cons_succ, List.set_cons_zero]
    refine held_take 12 23 _ (.pointer (some ⟨B0, 3, none⟩)) rfl rfl (by kernel_rfl) (by kernel_rfl) (by kernel_rfl) rfl hS0 (fun _ _ => rfl) ?_
    simp only [Act.put, List.setIfInBounds_toArray, List.set_cons_succ, List.set_cons_zero]
    refine held_take 13 24 _ (.slice (some ⟨B0, 3, none⟩) 32 32) rfl rfl (by kernel_rfl) (by kernel_rfl) (by kernel_rfl) rfl hS0 (fun _ _ => by kernel_rfl) ?_
    simp only [Act.put, List.setIfInBounds_toArray, List.set_cons_succ, List.set_cons_zero]
    refine held_take 14 25 _ (.agg #[.int .u64 0, .slice (some ⟨B0, 3, none⟩) 32 32, nilS]) rfl rfl (by kernel_rfl) (by kernel_rfl) (by kernel_rfl) rfl hS0 (fun V _ => exec_buildM _ _ rfl _ (builtV1 _ _ _)) ?_
    simp only [Act.put, List.setIfInBounds_toArray, List.set_cons_succ, List.set_cons_zero]
    refine held_take 15 26 _ (.agg #[.int .u64 0, nilS, nilS]) rfl rfl (by kernel_rfl) (by kernel_rfl) (by kernel_rfl) rfl hS0 (fun V _ => exec_buildM _ _ rfl _ builtVZ) ?_
    simp only [Act.put, List.setIfInBounds_toArray, List.set_cons_succ, List.set_cons_zero]
    refine held_all1 16 (by kernel_rfl) (op_value 16 27 _ (.slice (some ⟨w1.heap.size, 0, none⟩) 5 5) (w1.drew.alloc (.cells (valsA vn sn cn (.slice (some ⟨B0, 3, none⟩) 32 32) nilS) 63)) rfl rfl rfl (exec_vals5 _ _ _ _ _ rfl (vn : Int) (sn : Int) (cn : Int) (.slice (some ⟨B0, 3, none⟩) 32 32) rfl rfl rfl rfl rfl) ⟨hS0.alloc _, ?_⟩)
    simp only [Act.put, List.setIfInBounds_toArray, List.set_cons_succ, List.set_cons_zero]
    refine held_take 17 5 _ (.slice (some ⟨w1.heap.size, 0, none⟩) 5 5) rfl rfl (by kernel_rfl) (by kernel_rfl) (by kernel_rfl) rfl (hS0.alloc _) (fun _ _ => rfl) ?_
    simp only [Act.put, List.setIfInBounds_toArray, List.set_cons_succ, List.set_cons_zero]
    refine wpAnyH_done (by kernel_rfl) ?_ _
    refine NoPanic.normal ?_
    obtain ⟨g, hg⟩ : ∃ g, g = w1.heap.size := ⟨_, rfl⟩
    have kv4 : Blk (w1.drew.alloc (.cells (valsA vn sn cn (.slice (some ⟨B0, 3, none⟩) 32 32) nilS) 63)) g 63 (valsA vn sn cn (.slice (some ⟨B0, 3, none⟩) 32 32) nilS) := by rw [hg]; exact Blk.new w1.drew _ _
    have kb4 : Blk (w1.drew.alloc (.cells (valsA vn sn cn (.slice (some ⟨B0, 3, none⟩) 32 32) nilS) 63)) B0 27 MC := hS0.alloc _
    have hB4 : Below w.heap.size w (w1.drew.alloc (.cells (valsA vn sn cn (.slice (some ⟨B0, 3, none⟩) 32 32) nilS) 63)) := hB1.drew.alloc hB1.size _
    have hgB : B0 ≠ g := by rw [hg]; have := k1.lt; omega
    have hgw : w.heap.size ≤ g := by rw [hg]; exact hB1.size
    rw [← hg]
    obtain ⟨W4, hW4⟩ : ∃ W4, W4 = w1.drew.alloc (.cells (valsA vn sn cn (.slice (some ⟨B0, 3, none⟩) 32 32) nilS) 63) := ⟨_, rfl⟩
    rw [← hW4] at kv4 kb4 hB4 ⊢
    have l4 : g < W4.heap.size := kv4.lt
    have lB4 : B0 < W4.heap.size := kb4.lt
    clear hW4 hg hS0 k1 hB1 cv0 cv1 cv2
    go_wp2_with fail
    go_loopw [6] (fun i wr => ∃ (k : Nat) (lv : Value) (rs : List Value), k ≤ U.length ∧ i = .int .i64 (k : Int) ∧ Blk wr g 63 (valsA vn sn cn (.slice (some ⟨B0, 3, none⟩) 32 32) lv) ∧ Rws wr W4.heap.size lv rs (U.take k) ∧ Below w.heap.size w wr ∧ Blk wr B0 27 MC ∧ W4.heap.size ≤ wr.heap.size) (fun i _ => U.length - (intOf i).toNat)
    case atStart => exact ⟨0, nilS, [], Nat.zero_le _, rfl, kv4, by simpa using Rws.nil _ _, hB4, kb4, Nat.le_refl _⟩
    case round =>
      clear kv4 hB4 kb4
      obtain ⟨k, lv, rs, hk, rfl, kv, hRr, hB, kb, hsz⟩ := hrel
      have c35 := kb.cell m35
      by_cases hlt : k < U.length
      · have cx := HCX.out k hlt
        have HTK : Hid (U.take (k + 1) = U.take k ++ [U[k]]) := List.take_succ_eq_append_getElem hlt
        have hul : (U.take k).length ≤ 1000000 := by simp; omega
        obtain ⟨y, hy⟩ : ∃ y, y = U[k] := ⟨_, rfl⟩
        rw [← hy] at cx HTK
        have i1 : (k : Int) < (U.length : Int) := by omega
        have hRd : Rws wr.drew W4.heap.size lv rs (U.take k) := ⟨hRr.own, hRr.len, hRr.rows⟩
        obtain ⟨v2, w2, hr2, hR2, hg2, a2, c2, rfl⟩ := app_rowM wr.drew W4.heap.size lv rs (U.take k) hRd y hul hsz
        obtain ⟨al, cl, rfl⟩ := hRr.shape
        obtain ⟨WA, hWA⟩ : ∃ WA, WA = (wr.drew.alloc (.cells #[.int .u64 (n32 y), nilS, nilS] 63)).alloc (.cells #[.slice (some ⟨wr.heap.size, 0, none⟩) 1 1] 58) := ⟨_, rfl⟩
        have hWA' : (wr.drew.alloc (.cells #[.int .u64 (n32 y), nilS, nilS] 63)).alloc (.cells #[.slice (some ⟨wr.drew.heap.size, 0, none⟩) 1 1] 58) = WA := hWA.symm
        rw [hWA'] at hr2 hg2
        have hb1 : Below wr.heap.size wr.drew (wr.drew.alloc (.cells #[.int .u64 (n32 y), nilS, nilS] 63)) := (Below.refl wr.heap.size wr.drew).alloc (Nat.le_refl _) _
        have hb2 : Below wr.heap.size wr.drew WA := by rw [hWA]; exact hb1.alloc (by simp) _
        have hneo : ∀ q, q < W4.heap.size → some q ≠ (Value.slice al (U.take k).length cl).ownBlock := fun q hq e => by have := (World.ownsRow.lt hRr.own q e.symm).1; omega
        have kvd : Blk wr.drew g 63 _ := kv.drew
        have kbd : Blk wr.drew B0 27 MC := kb.drew
        have kv1 := kvd.below hb1 kvd.lt
        have kvA := kvd.below hb2 kvd.lt
        have kb1 := kbd.below hb1 kbd.lt
        have kbA := kbd.below hb2 kbd.lt
        have kv2 := kvA.grown hg2 (hneo g l4)
        have kb2 := kbA.grown hg2 (hneo B0 lB4)
        have hBA1 : Below w.heap.size w (wr.drew.alloc (.cells #[.int .u64 (n32 y), nilS, nilS] 63)) := hB.drew.trans (hb1.mono hB.size)
        have hBA : Below w.heap.size w WA := hB.drew.trans (hb2.mono hB.size)
        have hB2 : Below w.heap.size w w2 := below_grown hBA hg2 hBA.size (fun q hq => by have := (World.ownsRow.lt hRr.own q hq).1; have := hB.size; omega)
        have hs2 : wr.heap.size ≤ w2.heap.size := Nat.le_trans hb2.size hg2.size
        have c14 : wr.drew.cell? ⟨g, 14, none⟩ = some (.slice al (U.take k).length cl) := kvd.cell (j := 14) rfl
        have c14a : (wr.drew.alloc (.cells #[.int .u64 (n32 y), nilS, nilS] 63)).cell? ⟨g, 14, none⟩ = some (.slice al (U.take k).length cl) := kv1.cell (j := 14) rfl
        have c14b : WA.cell? ⟨g, 14, none⟩ = some (.slice al (U.take k).length cl) := kvA.cell (j := 14) rfl
        have c142 : w2.cell? ⟨g, 14, none⟩ = some (.slice al (U.take k).length cl) := kv2.cell (j := 14) rfl
        have f142 : w2.frozen? ⟨g, 14, none⟩ = false := kv2.frozen 14
        have hgr := grown_setCellM w2 g 14 (.slice a2 ((U.take k).length + 1) c2)
        have HF : Hid (Blk (w2.setCell ⟨g, 14, none⟩ (.slice a2 ((U.take k).length + 1) c2)) g 63 (valsA vn sn cn (.slice (some ⟨B0, 3, none⟩) 32 32) (.slice a2 ((U.take k).length + 1) c2))) := (kv2.set 14 _).of_eq rfl
        have HR2 : Hid (Rws (w2.setCell ⟨g, 14, none⟩ (.slice a2 ((U.take k).length + 1) c2)) W4.heap.size (.slice a2 ((U.take k).length + 1) c2) (rs ++ [.slice (some ⟨wr.heap.size, 0, none⟩) 1 1]) (U.take (k + 1))) := by
          show Rws _ _ _ _ _
          rw [HTK.out]
          exact hR2.grown hgr l4
        have kb4 : Blk (w2.setCell ⟨g, 14, none⟩ (.slice a2 ((U.take k).length + 1) c2)) B0 27 MC := kb2.grown hgr (by simpa using hgB)
        have hB4 : Below w.heap.size w (w2.setCell ⟨g, 14, none⟩ (.slice a2 ((U.take k).length + 1) c2)) := below_grown hB2 hgr hB2.size (fun q hq => by cases hq; exact hgw)
        have hs4 : W4.heap.size ≤ (w2.setCell ⟨g, 14, none⟩ (.slice a2 ((U.take k).length + 1) c2)).heap.size := Nat.le_trans hsz (Nat.le_trans hs2 hgr.size)
        have hS1 : Below w.heap.size w (wr.drew.alloc (.cells #[.int .u64 (n32 y), nilS, nilS] 63)) ∧ Blk (wr.drew.alloc (.cells #[.int .u64 (n32 y), nilS, nilS] 63)) B0 27 MC := ⟨hBA1, kb1⟩
        have hS2 : Below w.heap.size w WA ∧ Blk WA B0 27 MC := ⟨hBA, kbA⟩
        have hS3 : Below w.heap.size w w2 ∧ Blk w2 B0 27 MC := ⟨hB2, kb2⟩
        have hS4 : Below w.heap.size w (w2.setCell ⟨g, 14, none⟩ (.slice a2 ((U.take k).length + 1) c2)) ∧ Blk (w2.setCell ⟨g, 14, none⟩ (.slice a2 ((U.take k).length + 1) c2)) B0 27 MC := ⟨hB4, kb4⟩
        clear hneo hg2 hRr hRd kv1 kvA kb1 kbA kv2 kb2 hBA1 hBA hB2 hb1 hb2 hgr kvd kbd hWA' hR2 HTK hy
        generalize (U.take k).length = UL at *
        go_wp2_with fail
        have hS0 : Below w.heap.size w wr.drew ∧ Blk wr.drew B0 27 MC := ⟨hB.drew, kb.drew⟩
        refine held_begin (fun V => Below w.heap.size w V ∧ Blk V B0 27 MC) (by kernel_rfl) ?_
        refine held_take 0 35 _ (.slice (some ⟨g, 0, none⟩) 5 5) rfl rfl (by kernel_rfl) (by kernel_rfl) (by kernel_rfl) rfl hS0 (fun _ _ => rfl) ?_
        simp only [Act.put, List.setIfInBounds_toArray, List.set_cons_succ, List.set_cons_zero]
        refine held_take 1 36 _ (.slice (some ⟨g, 0, none⟩) 5 5) rfl rfl (by kernel_rfl) (by kernel_rfl) (by kernel_rfl) rfl hS0 (fun _ _ => rfl) ?_
        simp only [Act.put, List.setIfInBounds_toArray, List.set_cons_succ, List.set_cons_zero]
        refine held_take 2 37 _ (.pointer (some ⟨g, 12, none⟩)) rfl rfl (by kernel_rfl) (by kernel_rfl) (by kernel_rfl) rfl hS0 (fun V _ => exec_indexat 58 _ _ rfl (.slice (some ⟨g, 0, none⟩) 5 5) (.int .i64 4) _ rfl rfl (idx4 g V)) ?_
        simp only [Act.put, List.setIfInBounds_toArray, List.set_cons_succ, List.set_cons_zero]
        refine held_take 3 38 _ (.pointer (some ⟨g, 14, none⟩)) rfl rfl (by kernel_rfl) (by kernel_rfl) (by kernel_rfl) rfl hS0 (fun _ _ => rfl) ?_
        simp only [Act.put, List.setIfInBounds_toArray, List.set_cons_succ, List.set_cons_zero]
        refine held_take 5 40 _ (.pointer (some ⟨B0, 35, none⟩)) rfl rfl (by kernel_rfl) (by kernel_rfl) (by kernel_rfl) rfl hS0 (fun _ _ => rfl) ?_
        simp only [Act.put, List.setIfInBounds_toArray, List.set_cons_succ, List.set_cons_zero]
        refine held_take 6 41 _ (.slice (some ⟨sb, so, none⟩) U.length c) rfl rfl (by kernel_rfl) (by kernel_rfl) (by kernel_rfl) rfl hS0 (fun V hV => exec_loadc 25 _ rfl _ _ rfl (load_one 25 (fun _ => by kernel_rfl) V _ _ _ (hV.2.cell m35))) ?_
        simp only [Act.put, List.setIfInBounds_toArray, List.set_cons_succ, List.set_cons_zero]
        refine held_take 7 42 _ (.int .i64 (k : Int)) rfl rfl (by kernel_rfl) (by kernel_rfl) (by kernel_rfl) rfl hS0 (fun _ _ => rfl) ?_
        simp only [Act.put, List.setIfInBounds_toArray, List.set_cons_succ, List.set_cons_zero]
        refine held_take 8 43 _ (.pointer (some ⟨sb, so + k, none⟩)) rfl rfl (by kernel_rfl) (by kernel_rfl) (by kernel_rfl) rfl hS0 (fun V _ => exec_indexat 25 _ _ rfl (.slice (some ⟨sb, so, none⟩) U.length c) (.int .i64 (k : Int)) _ rfl rfl (idxW sb so U.length c k V hlt)) ?_
        simp only [Act.put, List.setIfInBounds_toArray, List.set_cons_succ, List.set_cons_zero]
        refine held_take 9 44 _ (v32 y) rfl rfl (by kernel_rfl) (by kernel_rfl) (by kernel_rfl) rfl hS0 (fun V hV => exec_loadc 49 _ rfl _ _ rfl (load_one 49 (fun _ => by kernel_rfl) V _ _ _ (cx V hV.1))) ?_
        simp only [Act.put, List.setIfInBounds_toArray, List.set_cons_succ, List.set_cons_zero]
        refine held_take 10 45 _ (.int .u64 (n32 y)) rfl rfl (by kernel_rfl) (by kernel_rfl) (by kernel_rfl) rfl hS0 (fun V _ => exec_conv 49 60 _ rfl (v32 y) (.int .u64 (n32 y)) rfl (conv_u32M y V)) ?_
        simp only [Act.put, List.setIfInBounds_toArray, List.set_cons_succ, List.set_cons_zero]
        refine held_take 11 46 _ (.agg #[.int .u64 (n32 y), nilS, nilS]) rfl rfl (by kernel_rfl) (by kernel_rfl) (by kernel_rfl) rfl hS0 (fun V _ => exec_buildM _ _ rfl _ (builtV0 _)) ?_
        simp only [Act.put, List.setIfInBounds_toArray, List.set_cons_succ, List.set_cons_zero]
        refine held_all2 4 12 (by kernel_rfl) ?_ ?_
        · refine op_value 4 39 _ (.slice al UL cl) _ rfl rfl rfl (exec_loadc 61 _ rfl _ _ rfl (load_one 61 (fun _ => by kernel_rfl) _ _ _ _ c14)) ⟨hS0, ?_⟩
          simp only [Act.put, List.setIfInBounds_toArray, List.set_cons_succ, List.set_cons_zero]
          refine held_all1 12 (by kernel_rfl) (op_value 12 47 _ (.slice (some ⟨wr.heap.size, 0, none⟩) 1 1) (wr.drew.alloc (.cells #[.int .u64 (n32 y), nilS, nilS] 63)) rfl rfl rfl (exec_val1 _ rfl (n32 y) rfl) ⟨hS1, ?_⟩)
          simp only [Act.put, List.setIfInBounds_toArray, List.set_cons_succ, List.set_cons_zero]
          refine held_all1 13 (by kernel_rfl) (op_value 13 48 _ (.slice (some ⟨wr.heap.size + 1, 0, none⟩) 1 1) WA rfl rfl rfl (exec_rec1 _ _ rfl _ _ _ rfl (by rw [World.size_alloc]; rfl) hWA.symm) ⟨hS2, ?_⟩)
          simp only [Act.put, List.setIfInBounds_toArray, List.set_cons_succ, List.set_cons_zero]
          refine held_all1 14 (by kernel_rfl) (op_value 14 49 _ (.slice a2 (UL + 1) c2) w2 rfl rfl rfl (exec_app _ _ 61 61 rfl (.slice al UL cl) (.slice (some ⟨wr.heap.size + 1, 0, none⟩) 1 1) (.slice a2 (UL + 1) c2) rfl rfl hr2) ⟨hS3, ?_⟩)
          simp only [Act.put, List.setIfInBounds_toArray, List.set_cons_succ, List.set_cons_zero]
          refine held_take 15 50 _ (.pointer (some ⟨g, 12, none⟩)) rfl rfl (by kernel_rfl) (by kernel_rfl) (by kernel_rfl) rfl hS3 (fun V _ => exec_indexat 58 _ _ rfl (.slice (some ⟨g, 0, none⟩) 5 5) (.int .i64 4) _ rfl rfl (idx4 g V)) ?_
          simp only [Act.put, List.setIfInBounds_toArray, List.set_cons_succ, List.set_cons_zero]
          refine held_take 16 51 _ (.pointer (some ⟨g, 14, none⟩)) rfl rfl (by kernel_rfl) (by kernel_rfl) (by kernel_rfl) rfl hS3 (fun _ _ => rfl) ?_
          simp only [Act.put, List.setIfInBounds_toArray, List.set_cons_succ, List.set_cons_zero]
          refine held_all1 17 (by kernel_rfl) (op_skip 17 _ _ rfl rfl rfl (exec_storec _ _ rfl g 14 a2 (UL + 1) c2 _ rfl rfl c142 f142) ⟨hS4, ?_⟩)
          refine wpAnyH_done (by kernel_rfl) ?_ _
          refine NoPanic.normal ?_
          clear c14 c14a c14b c142 f142 hr2 hS1 hS2 hS3 hS4 hS0
          go_wp2
          go_roundw
          case rel => exact ⟨k + 1, _, _, hlt, by go_num, HF.out, HR2.out, hB4, kb4, hs4⟩
          case measure => simp [intOf]; omega
        · refine op_value 12 47 _ (.slice (some ⟨wr.heap.size, 0, none⟩) 1 1) (wr.drew.alloc (.cells #[.int .u64 (n32 y), nilS, nilS] 63)) rfl rfl rfl (exec_val1 _ rfl (n32 y) rfl) ⟨hS1, ?_⟩
          simp only [Act.put, List.setIfInBounds_toArray, List.set_cons_succ, List.set_cons_zero]
          refine held_all2 4 13 (by kernel_rfl) ?_ ?_
          · refine op_value 4 39 _ (.slice al UL cl) _ rfl rfl rfl (exec_loadc 61 _ rfl _ _ rfl (load_one 61 (fun _ => by kernel_rfl) _ _ _ _ c14a)) ⟨hS1, ?_⟩
            simp only [Act.put, List.setIfInBounds_toArray, List.set_cons_succ, List.set_cons_zero]
            refine held_all1 13 (by kernel_rfl) (op_value 13 48 _ (.slice (some ⟨wr.heap.size + 1, 0, none⟩) 1 1) WA rfl rfl rfl (exec_rec1 _ _ rfl _ _ _ rfl (by rw [World.size_alloc]; rfl) hWA.symm) ⟨hS2, ?_⟩)
            simp only [Act.put, List.setIfInBounds_toArray, List.set_cons_succ, List.set_cons_zero]
            refine held_all1 14 (by kernel_rfl) (op_value 14 49 _ (.slice a2 (UL + 1) c2) w2 rfl rfl rfl (exec_app _ _ 61 61 rfl (.slice al UL cl) (.slice (some ⟨wr.heap.size + 1, 0, none⟩) 1 1) (.slice a2 (UL + 1) c2) rfl rfl hr2) ⟨hS3, ?_⟩)
            simp only [Act.put, List.setIfInBounds_toArray, List.set_cons_succ, List.set_cons_zero]
            refine held_take 15 50 _ (.pointer (some ⟨g, 12, none⟩)) rfl rfl (by kernel_rfl) (by kernel_rfl) (by kernel_rfl) rfl hS3 (fun V _ => exec_indexat 58 _ _ rfl (.slice (some ⟨g, 0, none⟩) 5 5) (.int .i64 4) _ rfl rfl (idx4 g V)) ?_
            simp only [Act.put, List.setIfInBounds_toArray, List.set_cons_succ, List.set_cons_zero]
            refine held_take 16 51 _ (.pointer (some ⟨g, 14, none⟩)) rfl rfl (by kernel_rfl) (by kernel_rfl) (by kernel_rfl) rfl hS3 (fun _ _ => rfl) ?_
            simp only [Act.put, List.setIfInBounds_toArray, List.set_cons_succ, List.set_cons_zero]
            refine held_all1 17 (by kernel_rfl) (op_skip 17 _ _ rfl rfl rfl (exec_storec _ _ rfl g 14 a2 (UL + 1) c2 _ rfl rfl c142 f142) ⟨hS4, ?_⟩)
            refine wpAnyH_done (by kernel_rfl) ?_ _
            refine NoPanic.normal ?_
            clear c14 c14a c14b c142 f142 hr2 hS1 hS2 hS3 hS4 hS0
            go_wp2
            go_roundw
            case rel => exact ⟨k + 1, _, _, hlt, by go_num, HF.out, HR2.out, hB4, kb4, hs4⟩
            case measure => simp [intOf]; omega
          · refine op_value 13 48 _ (.slice (some ⟨wr.heap.size + 1, 0, none⟩) 1 1) WA rfl rfl rfl (exec_rec1 _ _ rfl _ _ _ rfl (by rw [World.size_alloc]; rfl) hWA.symm) ⟨hS2, ?_⟩
            simp only [Act.put, List.setIfInBounds_toArray, List.set_cons_succ, List.set_cons_zero]
            refine held_all1 4 (by kernel_rfl) (op_value 4 39 _ (.slice al UL cl) _ rfl rfl rfl (exec_loadc 61 _ rfl _ _ rfl (load_one 61 (fun _ => by kernel_rfl) _ _ _ _ c14b)) ⟨hS2, ?_⟩)
            simp only [Act.put, List.setIfInBounds_toArray, List.set_cons_succ, List.set_cons_zero]
            refine held_all1 14 (by kernel_rfl) (op_value 14 49 _ (.slice a2 (UL + 1) c2) w2 rfl rfl rfl (exec_app _ _ 61 61 rfl (.slice al UL cl) (.slice (some ⟨wr.heap.size + 1, 0, none⟩) 1 1) (.slice a2 (UL + 1) c2) rfl rfl hr2) ⟨hS3, ?_⟩)
            simp only [Act.put, List.setIfInBounds_toArray, List.set_cons_succ, List.set_cons_zero]
            refine held_take 15 50 _ (.pointer (some ⟨g, 12, none⟩)) rfl rfl (by kernel_rfl) (by kernel_rfl) (by kernel_rfl) rfl hS3 (fun V _ => exec_indexat 58 _ _ rfl (.slice (some ⟨g, 0, none⟩) 5 5) (.int .i64 4) _ rfl rfl (idx4 g V)) ?_
            simp only [Act.put, List.setIfInBounds_toArray, List.set_cons_succ, List.set_cons_zero]
            refine held_take 16 51 _ (.pointer (some ⟨g, 14, none⟩)) rfl rfl (by kernel_rfl) (by kernel_rfl) (by kernel_rfl) rfl hS3 (fun _ _ => rfl) ?_
            simp only [Act.put, List.setIfInBounds_toArray, List.set_cons_succ, List.set_cons_zero]
            refine held_all1 17 (by kernel_rfl) (op_skip 17 _ _ rfl rfl rfl (exec_storec _ _ rfl g 14 a2 (UL + 1) c2 _ rfl rfl c142 f142) ⟨hS4, ?_⟩)
            refine wpAnyH_done (by kernel_rfl) ?_ _
            refine NoPanic.normal ?_
            clear c14 c14a c14b c142 f142 hr2 hS1 hS2 hS3 hS4 hS0
            go_wp2
            go_roundw
            case rel => exact ⟨k + 1, _, _, hlt, by go_num, HF.out, HR2.out, hB4, kb4, hs4⟩
            case measure => simp [intOf]; omega
      · obtain rfl : k = U.length := by omega
        have i1 : ¬ (U.length : Int) < (U.length : Int) := by omega
        rw [List.take_of_length_le (Nat.le_refl _)] at hRr
        have hV := HVM.out wr g B0 _ _ _ kv hRr kb
        clear HVM kv hRr kb
        go_wp2_with fail
        refine (HF.out _).mono ?_
        rintro e w5 ⟨lv5, rfl, hF5, hb5⟩
        have hV5 := Vals.keeps (Keeps.of_below hb5 (Nat.le_refl _)) 2 _ _ hV
        have hB5 : Below w.heap.size w w5 := hB.trans (hb5.mono hB.size)
        have HN5 := HN.out w5 lv5 _ hF5 hV5
        clear HF HN hV hF5 hV5 c35
        go_wp2_with fail
        refine HN5.mono ?_
        intro e w6 hp
        obtain ⟨b6, kk, rfl, hown, hb6⟩ := encodePost_form hp
        clear hp
        have hB6 : Below w.heap.size w w6 := hB5.trans (hb6.mono hB5.size)
        have HO : Hid (encIs w6 w.heap.size b6 kk R) := hown _ hB5.size
        clear hown
        go_wp2
        go_ret2
        exact encodePost_of HO.out hB6
  · have HE : Hid (encM m = none) := if_neg hok
    rw [HE.out]
    rw [decide_eq_false hok] at HR
    clear HE hu hm hh hok
    unfold manV at *
    generalize manC m su = MC at *
    go_enter Tryd.func25, Tryd.ntmps25
    go_wp2_with (refine wpList_load_row rfl 27 _ rfl w.heap.size rfl 27 _ (0, 0) _ k Tryd.underlying27 rfl hi ?_)
    refine HR.out.mono ?_
    rintro e w1 ⟨rfl, hb1⟩
    have hB1 : Below w.heap.size w w1 := hB.trans (hb1.mono hB.size)
    clear HR
    go_wp2
    go_ret2
    exact ⟨rfl, hB1⟩
end Go.Proofs.YthophonofaaafaaDoor
