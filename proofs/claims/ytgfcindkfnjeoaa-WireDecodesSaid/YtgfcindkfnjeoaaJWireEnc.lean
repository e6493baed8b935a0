/-
  What is proved here: wire.Encode makes the bytes of a message that may be.
  Conditions: the message comes in as a value; what manifestMay and manifest.Encode answer.
-/
import Derived.Test.YtgfcindkfnjeoaaJWireVlu
namespace Go.Proofs.Ytgfcindkfnjeoaa
open Go.RowKit

/-- The numbers of a message that may be are so. -/
theorem may_nums {x : MS} (h : numsMay x = true) : inNs (nsK x.k) (xsK x) ∧ ∀ n ∈ numK x.k, 0 ≤ getM x n.1 ∧ getM x n.1 < 9223372036854775808 := by
  obtain ⟨k, d, c, l, v, s, hh, oo, m, b⟩ := x
  unfold numsMay at h
  simp only at h ⊢
  rcases kinds k with rfl | rfl | rfl | rfl | rfl | rfl | rfl | rfl | hk
  · have e : numK 1 = [(1, 1, 4096), (4, 0, 1073741824)] := by decide
    simp only [e, mayL, getM, zeroAt, Bool.and_eq_true, decide_eq_true_eq] at h
    simp only [nsK, xsK, e, getM, List.map_cons, List.map_nil, inNs, List.mem_cons, List.not_mem_nil, or_false]
    refine ⟨⟨⟨by omega, by omega⟩, ⟨by omega, by omega⟩, trivial⟩, fun n hn => ?_⟩
    rcases hn with rfl | rfl
    all_goals (simp only; omega)
  · have e : numK 2 = [(2, 1, 1073741824), (3, 1, 1073741824)] := by decide
    simp only [e, mayL, getM, zeroAt, Bool.and_eq_true, decide_eq_true_eq] at h
    simp only [nsK, xsK, e, getM, List.map_cons, List.map_nil, inNs, List.mem_cons, List.not_mem_nil, or_false]
    refine ⟨⟨⟨by omega, by omega⟩, ⟨by omega, by omega⟩, trivial⟩, fun n hn => ?_⟩
    rcases hn with rfl | rfl
    all_goals (simp only; omega)
  · exact ⟨trivial, fun n hn => by cases hn⟩
  · have e : numK 4 = [(2, 1, 1073741824), (3, 1, 1073741824), (6, 0, 127)] := by decide
    simp only [e, mayL, getM, zeroAt, Bool.and_eq_true, decide_eq_true_eq] at h
    simp only [nsK, xsK, e, getM, List.map_cons, List.map_nil, inNs, List.mem_cons, List.not_mem_nil, or_false]
    refine ⟨⟨⟨by omega, by omega⟩, ⟨by omega, by omega⟩, ⟨by omega, by omega⟩, trivial⟩, fun n hn => ?_⟩
    rcases hn with rfl | rfl | rfl
    all_goals (simp only; omega)
  · have e : numK 5 = [(2, 1, 1073741824), (3, 1, 1073741824), (6, 0, 127)] := by decide
    simp only [e, mayL, getM, zeroAt, Bool.and_eq_true, decide_eq_true_eq] at h
    simp only [nsK, xsK, e, getM, List.map_cons, List.map_nil, inNs, List.mem_cons, List.not_mem_nil, or_false]
    refine ⟨⟨⟨by omega, by omega⟩, ⟨by omega, by omega⟩, ⟨by omega, by omega⟩, trivial⟩, fun n hn => ?_⟩
    rcases hn with rfl | rfl | rfl
    all_goals (simp only; omega)
  · have e : numK 6 = [(1, 1, 4096), (5, 1, 1073741824), (2, 1, 1073741824), (3, 1, 1073741824), (4, 1, 1073741824), (7, 1, 3)] := by decide
    simp only [e, mayL, getM, zeroAt, Bool.and_eq_true, decide_eq_true_eq] at h
    simp only [nsK, xsK, e, getM, List.map_cons, List.map_nil, inNs, List.mem_cons, List.not_mem_nil, or_false]
    refine ⟨⟨⟨by omega, by omega⟩, ⟨by omega, by omega⟩, ⟨by omega, by omega⟩, ⟨by omega, by omega⟩, ⟨by omega, by omega⟩, ⟨by omega, by omega⟩, trivial⟩, fun n hn => ?_⟩
    rcases hn with rfl | rfl | rfl | rfl | rfl | rfl
    all_goals (simp only; omega)
  · have e : numK 7 = [(5, 1, 1073741824)] := by decide
    simp only [e, mayL, getM, zeroAt, Bool.and_eq_true, decide_eq_true_eq] at h
    simp only [nsK, xsK, e, getM, List.map_cons, List.map_nil, inNs, List.mem_cons, List.not_mem_nil, or_false]
    refine ⟨⟨⟨by omega, by omega⟩, trivial⟩, fun n hn => ?_⟩
    subst hn
    simp only
    omega
  · have e : numK 8 = [(2, 1, 1073741824), (3, 1, 1073741824)] := by decide
    simp only [e, mayL, getM, zeroAt, Bool.and_eq_true, decide_eq_true_eq] at h
    simp only [nsK, xsK, e, getM, List.map_cons, List.map_nil, inNs, List.mem_cons, List.not_mem_nil, or_false]
    refine ⟨⟨⟨by omega, by omega⟩, ⟨by omega, by omega⟩, trivial⟩, fun n hn => ?_⟩
    rcases hn with rfl | rfl
    all_goals (simp only; omega)
  · rw [nsK, xsK, numK_none hk]
    exact ⟨trivial, fun n hn => by cases hn⟩
theorem rec_okK {k : Int} (h1 : 1 ≤ k) (h8 : k ≤ 8) (h3 : k ≠ 3) : RecOk (nsK k) (mbK k) := by
  rcases kinds k with rfl | rfl | rfl | rfl | rfl | rfl | rfl | rfl | hk
  · exact ⟨by decide, by decide, fun m h => by cases h⟩
  · exact ⟨by decide, by decide, fun m h => by cases h; decide⟩
  · exact absurd rfl h3
  · exact ⟨by decide, by decide, fun m h => by cases h⟩
  · exact ⟨by decide, by decide, fun m h => by cases h; decide⟩
  · exact ⟨by decide, by decide, fun m h => by cases h⟩
  · exact ⟨by decide, by decide, fun m h => by cases h⟩
  · exact ⟨by decide, by decide, fun m h => by cases h⟩
  · omega
theorem may_body {x : MS} {nb : List UInt8} (h : bodyMay x = true) (h2 : x.k = 2 → nb.length ≤ 500) : inBs (mbK x.k) (boK x nb) := by
  unfold mbK boK
  by_cases hk2 : x.k = 2
  · rw [if_pos hk2, if_pos hk2]; exact h2 hk2
  · rw [if_neg hk2, if_neg hk2]
    by_cases hk5 : x.k = 5
    · rw [if_pos hk5, if_pos hk5]
      unfold bodyMay at h
      rw [if_pos hk5] at h
      show x.b.length ≤ 1024
      exact of_decide_eq_true h
    · rw [if_neg hk5, if_neg hk5]; trivial
/-- The record of a message, and its bytes. -/
def recW (x : MS) (nb : List UInt8) : Option (List UInt8) := encTop (recF (nsK x.k) (mbK x.k)) (recV (xsK x) (boK x nb))
def encW (x : MS) (nb : List UInt8) : Option (List UInt8) := if rightM x = true then some (UInt8.ofNat x.k.toNat :: if x.k = 3 then [] else (recW x nb).getD []) else none
theorem right_parts {x : MS} (h : rightM x = true) : (1 ≤ x.k ∧ x.k ≤ 8) ∧ numsMay x = true ∧ manMay x = true ∧ bodyMay x = true := by
  unfold rightM at h
  simp only [Bool.and_eq_true, decide_eq_true_eq] at h
  exact ⟨h.1, h.2.1, h.2.2.1, h.2.2.2⟩
theorem recW_some {x : MS} {nb : List UInt8} (h : rightM x = true) (h3 : x.k ≠ 3) (h2 : x.k = 2 → nb.length ≤ 500) : ∃ r, recW x nb = some r ∧ r.length ≤ 1048576 := by
  obtain ⟨⟨h1, h8⟩, hn, hm, hb⟩ := right_parts h
  obtain ⟨r, hr⟩ := (rec_okK h1 h8 h3).some (may_nums hn).1 (may_body hb h2)
  exact ⟨r, hr, (rec_okK h1 h8 h3).len hr⟩
theorem exec_loadA {a : Act} {o : Oper} {w : World} (t : TypeId) (x : Operand) (ho : o.op = .load t x) (g : Nat) (MC : Array Value) (d : TypeDesc) (hx : a.eval x = .pointer (some ⟨g, 0, none⟩)) (hb : Blk w g t MC) (hu : Try.prog.underlying t = some d) (hd : d.isRow = true) (hi : (Try.prog.info? t).map (·.size) = some MC.size) : (execOp a.eval o).run Try.prog w = .ok (.value (.agg MC)) w := by
  have := exec_loadB (o := o) t x ho g 0 MC.toList d hx (hb.range 0 _ (fun j v hj => by rw [Nat.zero_add]; simpa using hj)) hu hd (by rw [Array.length_toList]; exact hi)
  rwa [Array.toArray_toList] at this
theorem own_oneW (w : World) (base n : Nat) (b : UInt8) (hn : n = w.heap.size) (hb : base ≤ w.heap.size) : Own (w.alloc (.cells #[v8 b] 5)) base (.slice (some ⟨n, 0, none⟩) 1 1) [b] := by
  subst hn
  exact ⟨rfl, .inr ⟨w.heap.size, 1, #[v8 b], rfl, hb, heap_alloc_new w _, Nat.le_refl _, by unfold maxLen; omega, rfl, rfl⟩⟩
theorem u8_wrap {k : Int} (h1 : 1 ≤ k) (h8 : k ≤ 8) : IntKind.u8.wrap k = n8 (UInt8.ofNat k.toNat) := by
  rcases kinds k with rfl | rfl | rfl | rfl | rfl | rfl | rfl | rfl | hk
  all_goals first | rfl | omega
set_option maxRecDepth 100000 in
set_option maxHeartbeats 8000000 in
theorem wencode_any (x : MS) (mc : List Value) (ab : Option Addr) (cb : Nat) (nb : List UInt8) (w : World) (hmc : mc.length = 36) (hS : Seg w (.slice ab x.b.length cb) x.b) (hbl : x.b.length ≤ maxLen) (h2 : x.k = 2 → rightM x = true → nb.length ≤ 500)
    (HM0 : ∀ V, Below w.heap.size w V → Calls Try.prog 22 #[.agg (msA x mc (.slice ab x.b.length cb))] V fun e w' => e = .returned (.bool (manMay x)) ∧ Below V.heap.size V w')
    (HE0 : x.k = 2 → rightM x = true → ∀ V, Below w.heap.size w V → Calls Try.prog 36 #[.agg mc.toArray] V fun e w' => ∃ b k, e = .returned (.tuple #[b, .int .i64 k]) ∧ Own w' V.heap.size b nb ∧ Below V.heap.size V w') :
    Calls Try.prog 8 #[.agg (msA x mc (.slice ab x.b.length cb))] w fun e w' => encodePost w (encW x nb) e w' := by
  have kB0 := Blk.new w 28 (msA x mc (.slice ab x.b.length cb))
  have hB0 := (Below.refl w.heap.size w).alloc (Nat.le_refl _) (.cells (msA x mc (.slice ab x.b.length cb)) 28)
  have hi : (Try.prog.info? 28).map (·.size) = some (msA x mc (.slice ab x.b.length cb)).size := by rw [msA_size _ _ _ hmc]; exact info_mess
  have HR : Hid (Calls Try.prog 10 #[.agg (msA x mc (.slice ab x.b.length cb))] (w.alloc (.cells (msA x mc (.slice ab x.b.length cb)) 28)) fun e w' => e = .returned (.bool (rightM x)) ∧ Below (w.alloc (.cells (msA x mc (.slice ab x.b.length cb)) 28)).heap.size (w.alloc (.cells (msA x mc (.slice ab x.b.length cb)) 28)) w') := wright_any x mc ab cb _ hmc (fun V hV => HM0 V (hB0.trans (hV.mono hB0.size)))
  have HK0 : Hid (∀ (V : World) (g : Nat), Blk V g 28 (msA x mc (.slice ab x.b.length cb)) → V.cell? ⟨g, 0, none⟩ = some (.int .i64 x.k)) := fun V g hV => hV.cell (msA_k x mc _)
  by_cases hr : rightM x = true
  rotate_left
  · have hne : encW x nb = none := if_neg hr
    have hrf : rightM x = false := by cases h : rightM x with
      | true => exact absurd h hr
      | false => rfl
    rw [hne]
    rw [hrf] at HR
    clear HM0 HE0 h2 hr hrf hne hS hbl HK0
    generalize msA x mc (.slice ab x.b.length cb) = MC at *
    go_enter Try.func8, Try.ntmps8
    go_wp2_with (refine wpList_load_row rfl 28 _ rfl w.heap.size rfl 28 MC (0, 0) _ kB0 Try.underlying28 rfl hi ?_)
    refine HR.out.mono ?_
    rintro e w1 ⟨rfl, hb1⟩
    have hB1 := hB0.trans (hb1.mono hB0.size)
    go_wp2
    go_ret2
    exact ⟨rfl, hB1⟩
  obtain ⟨⟨k1, k8⟩, hnm, hmm, hbm⟩ := right_parts hr
  have hen : encW x nb = some (UInt8.ofNat x.k.toNat :: if x.k = 3 then [] else (recW x nb).getD []) := if_pos hr
  rw [hen]
  have HV0 := fun V (hV : Below w.heap.size w V) => mvalues_any x mc ab cb nb V hmc (hS.below hV (Nat.le_refl _)) hbl (may_nums hnm).2 (fun hk U hU => HE0 hk hr U (hV.trans (hU.mono hV.size)))
  have HV : Hid (∀ V, Below w.heap.size w V → Calls Try.prog 17 #[.agg (msA x mc (.slice ab x.b.length cb))] V fun e w' => ∃ v, e = .returned v ∧ Vals w' 1 v (recV (xsK x) (boK x nb)) ∧ Below V.heap.size V w') := HV0
  have HF : Hid (∀ V, Calls Try.prog 16 #[.int .i64 x.k] V fun e w' => ∃ v, e = .returned v ∧ Flds w' 1 v (recF (nsK x.k) (mbK x.k)) ∧ Below V.heap.size V w') := fun V => mfields_any x.k V
  have hw8 := u8_wrap k1 k8
  rw [hr] at HR
  have HRS : Hid (x.k ≠ 3 → ∃ r, recW x nb = some r ∧ r.length ≤ 1048576) := fun h3 => recW_some hr h3 (fun hk => h2 hk hr)
  have HEN : Hid (∀ r, recW x nb = some r → ∀ V lv vv, Flds V 1 lv (recF (nsK x.k) (mbK x.k)) → Vals V 1 vv (recV (xsK x) (boK x nb)) → Calls Try.prog 15 #[lv, vv] V fun e w' => ∃ b, e = .returned (.tuple #[b, .int .i64 0]) ∧ Own w' V.heap.size b r ∧ Below V.heap.size V w') := fun r hrr V lv vv h1 h2 => (encode_any 1 lv _ 1 vv _ V h1 h2).mono fun e w' h => by
    have hrr : encTop (recF (nsK x.k) (mbK x.k)) (recV (xsK x) (boK x nb)) = some r := hrr
    rw [hrr] at h
    obtain ⟨⟨b, hb, ho⟩, hb2⟩ := h
    exact ⟨b, hb, ho, hb2⟩
  clear HM0 HE0 h2 hr hnm hmm hbm hS hbl HV0 hen
  generalize recW x nb = RW at *
  generalize recF (nsK x.k) (mbK x.k) = RF at *
  generalize recV (xsK x) (boK x nb) = RV at *
  generalize msA x mc (.slice ab x.b.length cb) = MC at *
  generalize UInt8.ofNat x.k.toNat = KB at *
  generalize x.k = kk at *
  obtain ⟨RES, hRES⟩ : ∃ RES, RES = KB :: (if kk = 3 then [] else RW.getD []) := ⟨_, rfl⟩
  rw [← hRES]
  have HRES : Hid (RES = KB :: (if kk = 3 then [] else RW.getD [])) := hRES
  clear hRES
  obtain ⟨B, hB⟩ : ∃ B, B = w.heap.size := ⟨_, rfl⟩
  go_enter Try.func8, Try.ntmps8
  go_wp2_with (refine wpList_load_row rfl 28 _ rfl w.heap.size rfl 28 MC (0, 0) _ kB0 Try.underlying28 rfl hi ?_)
  refine HR.out.mono ?_
  rintro e w1 ⟨rfl, hb1⟩
  rw [← hB] at kB0
  have kB1 := kB0.below hb1 kB0.lt
  have hB1 := hB0.trans (hb1.mono hB0.size)
  have c0 := HK0.out _ _ kB1
  have HBS : Hid (B = w.heap.size) := hB
  have hlt : B < w1.heap.size := kB1.lt
  have hne : B ≠ w1.heap.size := by omega
  have kB2 := kB1.alloc (.cells #[v8 KB] 5)
  have hB2 := hB1.alloc hB1.size (.cells #[v8 KB] 5)
  have hown2 := own_oneW w1 w.heap.size w1.heap.size KB rfl hB1.size
  have c02 : (w1.alloc (.cells #[v8 KB] 5)).cell? ⟨B, 0, none⟩ = some (.int .i64 kk) := HK0.out _ _ kB2
  rw [← hB] 
  by_cases hk3 : kk = 3
  · have HRE : Hid (RES = [KB]) := by show _ = _; rw [HRES.out, if_pos hk3]
    have d3 : (kk == 3) = true := beq_iff_eq.2 hk3
    clear HV HF HEN HRS HK0 HRES kB0 kB1 kB2 hk3 HR hb1 k1 k8 hB hB0
    go_wp2
    go_ret2
    exact ⟨⟨_, rfl, by rw [HRE.out]; exact hown2⟩, hB2⟩
  · have d3 : (kk == 3) = false := beq_eq_false_iff_ne.2 hk3
    obtain ⟨r, hr, hrl⟩ := HRS.out hk3
    have HE : Hid (∀ V lv vv, Flds V 1 lv RF → Vals V 1 vv RV → Calls Try.prog 15 #[lv, vv] V fun e w' => ∃ b, e = .returned (.tuple #[b, .int .i64 0]) ∧ Own w' V.heap.size b r ∧ Below V.heap.size V w') := HEN.out r hr
    have HRL : Hid (r.length ≤ 1048576) := hrl
    have HRE : Hid (RES = [KB] ++ r) := by show _ = _; rw [HRES.out, if_neg hk3, hr]; rfl
    have HKB : Hid (∀ (V : World), Blk V B 28 MC → V.cell? ⟨B, 0, none⟩ = some (.int .i64 kk)) := fun V hV => HK0.out V B hV
    clear HEN HRS HRES kB0 kB1 hk3 HR hb1 k1 k8 hB hB0 hr hrl HK0
    have HK0 := HKB
    go_wp2_with fail
    obtain ⟨G1, hG1⟩ : ∃ G1, G1 = w1.heap.size := ⟨_, rfl⟩
    rw [← hG1] at hown2 ⊢
    generalize w1.alloc (.cells #[v8 KB] 5) = W2 at *
    have hS0 : Blk W2.drew B 28 MC := kB2.drew
    have hB2 := hB2.drew
    have hown2 : Own W2.drew w.heap.size (.slice (some ⟨G1, 0, none⟩) 1 1) [KB] := hown2
    clear hne hlt c0 c02 hG1
    refine held_begin (fun V => Blk V B 28 MC) (by kernel_rfl) ?_
    refine held_take 0 19 _ (.pointer (some ⟨B, 0, none⟩)) rfl rfl (by kernel_rfl) (by kernel_rfl) (by kernel_rfl) rfl hS0 (fun _ _ => rfl) ?_
    simp only [Act.put, List.setIfInBounds_toArray, List.set_cons_succ, List.set_cons_zero]
    refine held_take 1 20 _ (.int .i64 kk) rfl rfl (by kernel_rfl) (by kernel_rfl) (by kernel_rfl) rfl hS0 (fun V hV => exec_loadc 3 _ rfl _ _ rfl (load_one 3 (fun _ => by kernel_rfl) V _ _ _ (HK0.out V hV))) ?_
    simp only [Act.put, List.setIfInBounds_toArray, List.set_cons_succ, List.set_cons_zero]
    refine held_take 3 22 _ (.agg MC) rfl rfl (by kernel_rfl) (by kernel_rfl) (by kernel_rfl) rfl hS0 (fun V hV => exec_loadA 28 _ rfl B MC _ rfl hV Try.underlying28 rfl hi) ?_
    simp only [Act.put, List.setIfInBounds_toArray, List.set_cons_succ, List.set_cons_zero]
    refine held_all1 2 (by kernel_rfl) (op_call 2 21 _ 16 #[.int .i64 kk] rfl rfl rfl (exec_one 16 _ _ rfl _ rfl Try.call16) ((HF.out _).mono ?_))
    rintro e w3 ⟨lv, rfl, hF3, hb3⟩
    have hS3 : Blk w3 B 28 MC := hS0.below hb3 hS0.lt
    have hB3 := hB2.trans (hb3.mono hB2.size)
    have ho3 := hown2.below hb3 (Nat.le_refl _)
    refine ⟨_, rfl, hS3, ?_⟩
    simp only [Act.put, List.setIfInBounds_toArray, List.set_cons_succ, List.set_cons_zero]
    refine held_all1 4 (by kernel_rfl) (op_call 4 23 _ 17 #[.agg MC] rfl rfl rfl (exec_one 17 _ _ rfl _ rfl Try.call17) ((HV.out _ hB3).mono ?_))
    rintro e w4 ⟨vv, rfl, hV4, hb4⟩
    have hS4 : Blk w4 B 28 MC := hS3.below hb4 hS3.lt
    have hB4 := hB3.trans (hb4.mono hB3.size)
    have ho4 := ho3.below hb4 (Nat.le_refl _)
    have hF4 := Flds.keeps (Keeps.of_below hb4 (Nat.le_refl _)) 1 _ _ hF3
    refine ⟨_, rfl, hS4, ?_⟩
    simp only [Act.put, List.setIfInBounds_toArray, List.set_cons_succ, List.set_cons_zero]
    refine held_all1 5 (by kernel_rfl) (op_call 5 24 _ 15 #[lv, vv] rfl rfl rfl (exec_two8 15 _ _ _ rfl _ _ rfl rfl Try.call15) ((HE.out _ _ _ hF4 hV4).mono ?_))
    rintro e w5 ⟨rv, rfl, ho5, hb5⟩
    have hS5 : Blk w5 B 28 MC := hS4.below hb5 hS4.lt
    have hB5 := hB4.trans (hb5.mono hB4.size)
    have ho45 := ho4.below hb5 (Nat.le_refl _)
    refine ⟨_, rfl, hS5, ?_⟩
    simp only [Act.put, List.setIfInBounds_toArray, List.set_cons_succ, List.set_cons_zero]
    refine held_take 6 18 _ (.tuple #[rv, .int .i64 0]) rfl rfl (by kernel_rfl) (by kernel_rfl) (by kernel_rfl) rfl hS5 (fun _ _ => rfl) ?_
    simp only [Act.put, List.setIfInBounds_toArray, List.set_cons_succ, List.set_cons_zero]
    refine held_take 7 25 _ (rv) rfl rfl (by kernel_rfl) (by kernel_rfl) (by kernel_rfl) rfl hS5 (fun _ _ => rfl) ?_
    simp only [Act.put, List.setIfInBounds_toArray, List.set_cons_succ, List.set_cons_zero]
    refine held_take 8 26 _ (.int .i64 0) rfl rfl (by kernel_rfl) (by kernel_rfl) (by kernel_rfl) rfl hS5 (fun _ _ => rfl) ?_
    simp only [Act.put, List.setIfInBounds_toArray, List.set_cons_succ, List.set_cons_zero]
    refine held_take 9 5 _ (rv) rfl rfl (by kernel_rfl) (by kernel_rfl) (by kernel_rfl) rfl hS5 (fun _ _ => rfl) ?_
    simp only [Act.put, List.setIfInBounds_toArray, List.set_cons_succ, List.set_cons_zero]
    refine held_take 10 6 _ (.int .i64 0) rfl rfl (by kernel_rfl) (by kernel_rfl) (by kernel_rfl) rfl hS5 (fun _ _ => rfl) ?_
    simp only [Act.put, List.setIfInBounds_toArray, List.set_cons_succ, List.set_cons_zero]
    refine wpAnyH_done (by kernel_rfl) ?_ _
    refine NoPanic.normal ?_
    have HOB : Hid (∀ q, (Value.slice (some ⟨G1, 0, none⟩) 1 1).ownBlock = some q → w.heap.size ≤ q) := fun q hq => (ho45.blocks q hq).1
    go_wp2_with (at_builtin; refine app_own _ rfl _ _ rfl w.heap.size _ [KB] rfl (by exact ho45) _ r rfl (by exact ho5.seg) (by have := HRL.out; simp; omega) hB5.size ?_; intro v7 w7 ho7 hg7 hv7)
    go_ret2
    exact ⟨⟨_, rfl, by rw [HRE.out]; exact ho7⟩, below_grown hB5 hg7 hB5.size HOB.out⟩
end Go.Proofs.Ytgfcindkfnjeoaa
