/-
  What is proved here: the document's Decode of a manifest answers the manifest whose bytes these are, or that there is none.
  Conditions: those that the fact names.
-/
import Derived.Test.YtgfcindkfnjeoaaJManUn
import Derived.Test.YtgfcindkfnjeoaaJRefManFlds
import Derived.Test.YtgfcindkfnjeoaaJRefCut
namespace Go.Proofs.Ytgfcindkfnjeoaa
open Go.RowKit

theorem man_setH (v s c : Int) (h : List UInt8) (u : List (BitVec 32)) (su : Value) (i : Nat) (hi : i < h.length) (x : UInt8) : (manC ⟨v, s, c, h, u⟩ su).setIfInBounds (3 + i) (v8 x) = manC ⟨v, s, c, h.set i x, u⟩ su := by
  unfold manC manL
  rw [List.setIfInBounds_toArray]
  congr 1
  rw [show 3 + i = i + 1 + 1 + 1 by omega]
  simp only [List.set_cons_succ]
  rw [List.set_append_left _ _ (by simpa using hi), ← List.map_set]
set_option maxRecDepth 100000 in
set_option maxHeartbeats 4000000 in
theorem rmdec_any (bv : Value) (s : List UInt8) (w : World) (hS : Seg w bv s) (hl : s.length ≤ maxLen) :
    Calls Try.prog 46 #[bv] w fun e w' => ∃ M su er, e = .returned (.tuple #[manV M su, .int .i64 er]) ∧ decIs w' s M su er ∧ Below w.heap.size w w' := by
  have hbz := built_zero
  have hiZ := manC_info zeroM (.slice none 0 0) (by simp [zeroM])
  have hoZ := manC_one zeroM (.slice none 0 0) rfl
  have hz0 := zeroMan
  have HZ : Hid (∀ W, (∀ k : MM, okM k → encTop manF (manVs k) ≠ some s) → decIs W s zeroM (.slice none 0 0) 2) := fun W h => ⟨by simp [zeroM], by simp [zeroM], wds_nil W, .inr ⟨rfl, rfl, rfl, h⟩⟩
  have HF : Hid (∀ W, Calls Try.prog 56 #[] W fun e w' => ∃ v, e = .returned v ∧ Flds w' 2 v manF ∧ Below W.heap.size W w') := fun W => rmFlds_any W
  have HD : Hid (∀ W lv, Below w.heap.size w W → Flds W 2 lv manF → Calls Try.prog 25 #[lv, bv] W fun e w' => decodePost W (decTop manF s) e w') := fun W lv hW h => refDecode_any 2 lv manF bv s W h (hS.below hW (Nat.le_refl _)) hl
  have HVZ : Hid (manV zeroM (.slice none 0 0) = .agg (manC zeroM (.slice none 0 0))) := rfl
  have HSZ : Hid (∀ (m : MM) (su : Value), m.h.length = 32 → (manC zeroM (.slice none 0 0)).size = (manC m su).size) := fun m su h => (manC_size _ _ (by simp [zeroM])).trans (manC_size _ _ h).symm
  have HAZ : Hid (∀ {a : Act} {o : Oper} {w : World} (_ : o.op = .alloc 25), (execOp a.eval o).run Try.prog w = .ok (.value (.pointer (some ⟨w.heap.size, 0, none⟩))) (w.alloc (.cells (manC zeroM (.slice none 0 0)) 25))) := fun h => exec_allocM h
  clear hS hl
  obtain ⟨Z, hZ⟩ : ∃ Z, Z = manC zeroM (.slice none 0 0) := ⟨_, rfl⟩
  rw [← hZ] at hbz hiZ hoZ HVZ HSZ
  simp only [← hZ] at HAZ
  have hz : ∀ w, (zeroValue 25).run Try.prog w = .ok (.agg Z) w := fun w => by rw [hZ]; exact hz0 w
  clear hZ hz0
  have k0 := Blk.new w 25 Z
  have hB0 := (Below.refl w.heap.size w).alloc (Nat.le_refl _) (.cells Z 25)
  go_enter Try.func46, Try.ntmps46
  go_wp2_with fail
  refine (HF.out _).mono ?_
  rintro e w1 ⟨lv, rfl, hF1, hb1⟩
  have k1 := k0.below hb1 k0.lt
  have hB1 : Below w.heap.size w w1 := hB0.trans (hb1.mono hB0.size)
  clear HF hb1 k0 hB0
  go_wp2_with fail
  refine (HD.out _ _ hB1 hF1).mono ?_
  intro e w2 hp
  clear HD hF1
  cases hd : decTop manF s with
  | error c =>
    rw [hd] at hp
    obtain ⟨rfl, hb2⟩ := hp
    obtain rfl := man_derr hd
    have HN := HZ.out
    have k2 := k1.below hb2 k1.lt
    have hB2 : Below w.heap.size w w2 := hB1.trans (hb2.mono hB1.size)
    clear k1 hB1 hb2
    go_wp2_with (first | (refine build_as rfl 25 _ rfl Z (by exact hbz) ?_) | (refine store_blk rfl 25 _ _ rfl rfl w.heap.size Z rfl rfl 25 Z k2 hiZ rfl hoZ ?_; intro W5 k5 hg5 hs5))
    have hB5 : Below w.heap.size w W5 := below_grown hB2 hg5 hB2.size (fun q hq => by cases hq; omega)
    refine bodyPost_ret (v := .tuple #[.agg Z, .int .i64 2]) (results_pairM rfl _ _ w.heap.size 25 Z (0, 0) _ _ rfl rfl k5 Try.underlying25 rfl hiZ) rfl ?_
    exact ⟨zeroM, .slice none 0 0, 2, congrArg (fun x => Ending.returned (.tuple #[x, .int .i64 2])) HVZ.out.symm, HN W5 (dec_errM hd), hB5⟩
  | ok v =>
    rw [hd] at hp
    obtain ⟨⟨val, rfl, hK⟩, hb2⟩ := hp
    obtain ⟨m, rfl, hI, henc⟩ := man_dec hd
    have hV2 := hK w2 (Agree.refl _ _)
    have k2 := k1.below hb2 k1.lt
    have hB2 : Below w.heap.size w w2 := hB1.trans (hb2.mono hB1.size)
    have hIB := hI
    have henc' : Hid (encTop manF (manVs m) = some s) := henc
    clear k1 hB1 hb2 hK hd henc
    obtain ⟨ao, cv, rfl, _, hf⟩ := hV2
    obtain ⟨b, off, rfl, hbl, hcc, hA⟩ := hf (by simp [manVs])
    have h5 : (manVs m).length = 5 := rfl
    rw [h5] at hcc ⊢
    have hh := hI.h
    obtain ⟨⟨v1, v2⟩, ⟨s1, s2⟩, ⟨d1, d2⟩, _, ⟨u1, u2⟩, _⟩ := hI
    obtain ⟨vn, hvn⟩ : ∃ n : Nat, m.v = n := ⟨m.v.toNat, by omega⟩
    obtain ⟨sn, hsn⟩ : ∃ n : Nat, m.s = n := ⟨m.s.toNat, by omega⟩
    obtain ⟨cn, hcn⟩ : ∃ n : Nat, m.c = n := ⟨m.c.toNat, by omega⟩
    have e0 := hA 0 (.mk m.v.toNat [] []) rfl
    have e1 := hA 1 (.mk m.s.toNat [] []) rfl
    have e2 := hA 2 (.mk m.c.toNat [] []) rfl
    obtain ⟨_, ⟨hbv, e3, hsg, _⟩, _, _⟩ := hA 3 (.mk 0 m.h []) rfl
    obtain ⟨_, _, ⟨la, lc, e4, _, hrec⟩, _⟩ := hA 4 (.mk 0 [] (m.u.map sumV)) rfl
    have e0 := e0.1
    have e1 := e1.1
    have e2 := e2.1
    simp only [Val.n, Val.b, Val.l, hvn, hsn, hcn, Int.toNat_natCast, List.length_map] at e0 e1 e2 hsg e4 hrec
    obtain ⟨lb, lo, rfl, hlb, hlc, hrec⟩ := hrec (by omega)
    obtain ⟨hb, ho, hc, rfl, hcap, hr, hbl2⟩ : ∃ hb ho hc, hbv = .slice (some ⟨hb, ho, none⟩) 32 hc ∧ 32 ≤ hc ∧ Row w2 hb ho m.h ∧ hb < w2.heap.size := by
      rcases hsg with ⟨h0, _⟩ | ⟨hb, ho, hc, h1, h2, h3, h4⟩
      · rw [h0] at hh; cases hh
      · rw [hh] at h1 h2
        exact ⟨hb, ho, hc, h1, h2, h3, h4⟩
    have q0 : ∀ V, Below w2.heap.size w2 V → V.cell? ⟨b, off + 0 * 3, none⟩ = some (.int .u64 (vn : Int)) := fun V h => (h.cell (p := ⟨b, off + 0 * 3, none⟩) hbl).trans e0
    have q1 : ∀ V, Below w2.heap.size w2 V → V.cell? ⟨b, off + 1 * 3, none⟩ = some (.int .u64 (sn : Int)) := fun V h => (h.cell (p := ⟨b, off + 1 * 3, none⟩) hbl).trans e1
    have q2 : ∀ V, Below w2.heap.size w2 V → V.cell? ⟨b, off + 2 * 3, none⟩ = some (.int .u64 (cn : Int)) := fun V h => (h.cell (p := ⟨b, off + 2 * 3, none⟩) hbl).trans e2
    have q3 : Hid (∀ V, Below w2.heap.size w2 V → V.cell? ⟨b, off + 10, none⟩ = some (.slice (some ⟨hb, ho, none⟩) 32 hc)) := fun V h => (h.cell (p := ⟨b, off + 3 * 3 + 1, none⟩) hbl).trans e3
    have q4 : Hid (∀ V, Below w2.heap.size w2 V → V.cell? ⟨b, off + 4 * 3 + 2, none⟩ = some (.slice (some ⟨lb, lo, none⟩) m.u.length lc)) := fun V h => (h.cell (p := ⟨b, off + 4 * 3 + 2, none⟩) hbl).trans e4
    have hrow : Hid (∀ V, Below w2.heap.size w2 V → ∀ j (hj : j < m.h.length), V.cell? ⟨hb, ho + j, none⟩ = some (v8 m.h[j])) := fun V h j hj => (h.cell (p := ⟨hb, ho + j, none⟩) hbl2).trans (hr j hj)
    have HRC : Hid (∀ (k : Nat) (hk : k < m.u.length), ∃ rb ro rc, (∀ V, Below w2.heap.size w2 V → V.cell? ⟨lb, lo + k, none⟩ = some (.slice (some ⟨rb, ro, none⟩) 1 rc)) ∧ (∀ V, Below w2.heap.size w2 V → V.cell? ⟨rb, ro, none⟩ = some (.int .u64 ((m.u[k]).toNat : Int)))) := fun k hk => by
      obtain ⟨rv, h1, ao, rc, rfl, _, h3⟩ := hrec k (sumV m.u[k]) (by simp [hk])
      obtain ⟨rb, ro, rfl, h4, h5, h6⟩ := h3 (by simp [sumV])
      have h7 := (h6 0 (.mk (m.u[k]).toNat [] []) rfl).1
      simp only [Val.n, Nat.zero_mul, Nat.add_zero] at h7
      exact ⟨rb, ro, rc, fun V h => (h.cell (p := ⟨lb, lo + k, none⟩) hlb).trans h1, fun V h => (h.cell (p := ⟨rb, ro, none⟩) h4).trans h7⟩
    have hb3 := built_three vn sn cn
    have hi3 : (Try.prog.info? 25).map (·.size) = some (manC ⟨vn, sn, cn, List.replicate 32 0, []⟩ (.slice none 0 0)).size := manC_info _ _ (by simp)
    have ho3 := manC_one ⟨vn, sn, cn, List.replicate 32 0, []⟩ (.slice none 0 0) rfl
    have hsz3 : Z.size = (manC ⟨vn, sn, cn, List.replicate 32 0, []⟩ (.slice none 0 0)).size := HSZ.out _ _ (by simp)
    have HMM : Hid (∀ su, manC ⟨vn, sn, cn, m.h, []⟩ su = manC m su) := fun su => by
      unfold manC manL
      rw [hvn, hsn, hcn]
    have cv0 := conv_i64M vn (by omega)
    have cv1 := conv_i64M sn (by omega)
    have cv2 := conv_i64M cn (by omega)
    clear hA hrec hr hsg e0 e1 e2 e3 e4 v1 v2 s1 s2 d1 d2 hvn hsn hcn hcap
    obtain ⟨M3, hM3⟩ : ∃ M3, M3 = manC ⟨vn, sn, cn, List.replicate 32 0, []⟩ (.slice none 0 0) := ⟨_, rfl⟩
    have HM3 : Hid (M3 = manC ⟨vn, sn, cn, List.replicate 32 0, []⟩ (.slice none 0 0)) := hM3
    simp only [← hM3] at hb3 hi3 ho3 hsz3
    clear hM3
    go_wp2_with fail
    have exec_allocZ : ∀ {a : Act} {o : Oper} {w : World} (_ : o.op = .alloc 25), (execOp a.eval o).run Try.prog w = .ok (.value (.pointer (some ⟨w.heap.size, 0, none⟩))) (w.alloc (.cells Z 25)) := HAZ.out
    have k61 : Blk (w2.drew.alloc (.cells Z 25)) w2.heap.size 25 Z := Blk.new _ _ _
    have hS2 : Below w2.heap.size w2 ((w2.drew.alloc (.cells Z 25)).setRow w2.heap.size M3) := below_grown ((Below.refl w2.heap.size w2).drew.alloc (Nat.le_refl _) _) (grown_setRowM _ _ _) (by rw [World.size_alloc]; show _ ≤ w2.heap.size + 1; omega) (fun q hq => by cases hq; exact Nat.le_refl _)
    have hS0 : Below w2.heap.size w2 w2.drew := (Below.refl w2.heap.size w2).drew
    refine held_begin (fun V => Below w2.heap.size w2 V) (by kernel_rfl) ?_
    refine held_take 0 19 _ (.slice (some ⟨b, off, none⟩) 5 cv) rfl rfl (by kernel_rfl) (by kernel_rfl) (by kernel_rfl) rfl hS0 (fun _ _ => rfl) ?_
    simp only [Act.put, List.setIfInBounds_toArray, List.set_cons_succ, List.set_cons_zero]
    refine held_take 1 20 _ (.pointer (some ⟨b, off + 0 * 3, none⟩)) rfl rfl (by kernel_rfl) (by kernel_rfl) (by kernel_rfl) rfl hS0 (fun V _ => exec_indexat 42 _ _ rfl (.slice (some ⟨b, off, none⟩) 5 cv) (.int .i64 0) _ rfl rfl (idxM b off cv 0 0 rfl (by omega) V)) ?_
    simp only [Act.put, List.setIfInBounds_toArray, List.set_cons_succ, List.set_cons_zero]
    refine held_take 2 21 _ (.pointer (some ⟨b, off + 0 * 3, none⟩)) rfl rfl (by kernel_rfl) (by kernel_rfl) (by kernel_rfl) rfl hS0 (fun _ _ => rfl) ?_
    simp only [Act.put, List.setIfInBounds_toArray, List.set_cons_succ, List.set_cons_zero]
    refine held_take 3 22 _ (.int .u64 (vn : Int)) rfl rfl (by kernel_rfl) (by kernel_rfl) (by kernel_rfl) rfl hS0 (fun V hV => exec_loadc 60 _ rfl _ _ rfl (load_one 60 (fun _ => by kernel_rfl) V _ _ _ (q0 V hV))) ?_
    simp only [Act.put, List.setIfInBounds_toArray, List.set_cons_succ, List.set_cons_zero]
    refine held_take 4 23 _ (.int .i64 (vn : Int)) rfl rfl (by kernel_rfl) (by kernel_rfl) (by kernel_rfl) rfl hS0 (fun V _ => exec_conv 60 3 _ rfl (.int .u64 (vn : Int)) (.int .i64 (vn : Int)) rfl (cv0 V)) ?_
    simp only [Act.put, List.setIfInBounds_toArray, List.set_cons_succ, List.set_cons_zero]
    refine held_take 5 24 _ (.slice (some ⟨b, off, none⟩) 5 cv) rfl rfl (by kernel_rfl) (by kernel_rfl) (by kernel_rfl) rfl hS0 (fun _ _ => rfl) ?_
    simp only [Act.put, List.setIfInBounds_toArray, List.set_cons_succ, List.set_cons_zero]
    refine held_take 6 25 _ (.pointer (some ⟨b, off + 1 * 3, none⟩)) rfl rfl (by kernel_rfl) (by kernel_rfl) (by kernel_rfl) rfl hS0 (fun V _ => exec_indexat 42 _ _ rfl (.slice (some ⟨b, off, none⟩) 5 cv) (.int .i64 1) _ rfl rfl (idxM b off cv 1 1 rfl (by omega) V)) ?_
    simp only [Act.put, List.setIfInBounds_toArray, List.set_cons_succ, List.set_cons_zero]
    refine held_take 7 26 _ (.pointer (some ⟨b, off + 1 * 3, none⟩)) rfl rfl (by kernel_rfl) (by kernel_rfl) (by kernel_rfl) rfl hS0 (fun _ _ => rfl) ?_
    simp only [Act.put, List.setIfInBounds_toArray, List.set_cons_succ, List.set_cons_zero]
    refine held_take 8 27 _ (.int .u64 (sn : Int)) rfl rfl (by kernel_rfl) (by kernel_rfl) (by kernel_rfl) rfl hS0 (fun V hV => exec_loadc 60 _ rfl _ _ rfl (load_one 60 (fun _ => by kernel_rfl) V _ _ _ (q1 V hV))) ?_
    simp only [Act.put, List.setIfInBounds_toArray, List.set_cons_succ, List.set_cons_zero]
    refine held_take 9 28 _ (.int .i64 (sn : Int)) rfl rfl (by kernel_rfl) (by kernel_rfl) (by kernel_rfl) rfl hS0 (fun V _ => exec_conv 60 3 _ rfl (.int .u64 (sn : Int)) (.int .i64 (sn : Int)) rfl (cv1 V)) ?_
    simp only [Act.put, List.setIfInBounds_toArray, List.set_cons_succ, List.set_cons_zero]
    refine held_take 10 29 _ (.slice (some ⟨b, off, none⟩) 5 cv) rfl rfl (by kernel_rfl) (by kernel_rfl) (by kernel_rfl) rfl hS0 (fun _ _ => rfl) ?_
    simp only [Act.put, List.setIfInBounds_toArray, List.set_cons_succ, List.set_cons_zero]
    refine held_take 11 30 _ (.pointer (some ⟨b, off + 2 * 3, none⟩)) rfl rfl (by kernel_rfl) (by kernel_rfl) (by kernel_rfl) rfl hS0 (fun V _ => exec_indexat 42 _ _ rfl (.slice (some ⟨b, off, none⟩) 5 cv) (.int .i64 2) _ rfl rfl (idxM b off cv 2 2 rfl (by omega) V)) ?_
    simp only [Act.put, List.setIfInBounds_toArray, List.set_cons_succ, List.set_cons_zero]
    refine held_take 12 31 _ (.pointer (some ⟨b, off + 2 * 3, none⟩)) rfl rfl (by kernel_rfl) (by kernel_rfl) (by kernel_rfl) rfl hS0 (fun _ _ => rfl) ?_
    simp only [Act.put, List.setIfInBounds_toArray, List.set_cons_succ, List.set_cons_zero]
    refine held_take 13 32 _ (.int .u64 (cn : Int)) rfl rfl (by kernel_rfl) (by kernel_rfl) (by kernel_rfl) rfl hS0 (fun V hV => exec_loadc 60 _ rfl _ _ rfl (load_one 60 (fun _ => by kernel_rfl) V _ _ _ (q2 V hV))) ?_
    simp only [Act.put, List.setIfInBounds_toArray, List.set_cons_succ, List.set_cons_zero]
    refine held_take 14 33 _ (.int .i64 (cn : Int)) rfl rfl (by kernel_rfl) (by kernel_rfl) (by kernel_rfl) rfl hS0 (fun V _ => exec_conv 60 3 _ rfl (.int .u64 (cn : Int)) (.int .i64 (cn : Int)) rfl (cv2 V)) ?_
    simp only [Act.put, List.setIfInBounds_toArray, List.set_cons_succ, List.set_cons_zero]
    refine held_take 15 34 _ (.agg M3) rfl rfl (by kernel_rfl) (by kernel_rfl) (by kernel_rfl) rfl hS0 (fun V _ => exec_buildM _ _ rfl _ hb3) ?_
    simp only [Act.put, List.setIfInBounds_toArray, List.set_cons_succ, List.set_cons_zero]
    refine held_all1 16 (by kernel_rfl) (op_value 16 6 _ (.pointer (some ⟨w2.heap.size, 0, none⟩)) _ rfl rfl rfl (exec_allocZ rfl) ⟨hS0.alloc (Nat.le_refl _) _, ?_⟩)
    simp only [Act.put, List.setIfInBounds_toArray, List.set_cons_succ, List.set_cons_zero]
    refine held_all1 17 (by kernel_rfl) (op_skip 17 _ _ rfl rfl rfl (exec_storeM 25 _ _ rfl w2.heap.size M3 rfl rfl 25 Z (Blk.new _ _ _) hi3 hsz3 ho3) ⟨hS2, ?_⟩)
    refine wpAnyH_done (by kernel_rfl) ?_ _
    refine NoPanic.normal ?_
    have k82' : Blk ((w2.drew.alloc (.cells Z 25)).setRow w2.heap.size M3) w2.heap.size 25 M3 := k61.setRow M3
    obtain ⟨W3, hW3⟩ : ∃ W3, W3 = (w2.drew.alloc (.cells Z 25)).setRow w2.heap.size M3 := ⟨_, rfl⟩
    obtain ⟨g, hg⟩ : ∃ g, g = w2.heap.size := ⟨_, rfl⟩
    have hgW : w2.heap.size ≤ g := by rw [hg]; exact Nat.le_refl _
    have hgne : w.heap.size ≠ g := by rw [hg]; have := k2.lt; omega
    rw [← hW3] at k82' hS2 ⊢
    rw [← hg] at k82'
    have k83 : Blk W3 g 25 (manC ⟨vn, sn, cn, List.replicate 32 0, []⟩ (.slice none 0 0)) := by rw [← HM3.out]; exact k82'
    have HG : Hid (g = w2.heap.size) := hg
    rw [← hg]
    clear k82' hW3 hg k61 exec_allocZ HAZ cv0 cv1 cv2 hb3 hi3 ho3 hS0 q0 q1 q2 hsz3 HM3
    have hB3 : Below w2.heap.size w2 W3 := hS2
    clear hS2
    go_wp2_with fail
    go_loopw [7] (fun i wr => ∃ (I : Nat) (HH : List UInt8), I ≤ 32 ∧ i = .int .i64 (I : Int) ∧ HH.length = 32 ∧ Hid (∀ j, j < I → HH[j]? = m.h[j]?) ∧ Blk wr g 25 (manC ⟨vn, sn, cn, HH, []⟩ (.slice none 0 0)) ∧ Below w2.heap.size w2 wr) (fun i _ => 32 - (intOf i).toNat)
    case atStart => exact ⟨0, _, Nat.zero_le _, rfl, by simp, fun j hj => by omega, k83, hB3⟩
    case round =>
      clear k83 hB3
      obtain ⟨I, HH, hI, rfl, hHl, hHH, k8, hBr⟩ := hrel
      by_cases hlt : I < 32
      · have c10 := q3.out wr hBr
        have cx := hrow.out wr hBr I (by omega)
        have cg := k8.cell (manC_hash ⟨vn, sn, cn, HH, []⟩ (.slice none 0 0) I (by show I < HH.length; omega))
        have fg := k8.frozen (3 + I)
        have HST : Hid (∀ x, Blk (wr.setCell ⟨g, 3 + I, none⟩ (v8 x)) g 25 (manC ⟨vn, sn, cn, HH.set I x, []⟩ (.slice none 0 0))) := fun x => (k8.set (3 + I) (v8 x)).of_eq (man_setH _ _ _ _ _ _ I (by omega) x)
        have hBs : ∀ x, Below w2.heap.size w2 (wr.setCell ⟨g, 3 + I, none⟩ x) := fun x => hBr.setCell (p := ⟨g, 3 + I, none⟩) hgW _
        have i1 : (I : Int) < 32 := by omega
        have hHI : Hid (I < HH.length) := by show I < HH.length; omega
        obtain ⟨y, hy⟩ : ∃ y, y = m.h[I]'(by omega) := ⟨_, rfl⟩
        have hy2 : Hid (m.h[I]? = some y) := by show _ = _; rw [hy]; exact List.getElem?_eq_getElem _
        rw [← hy] at cx
        clear hy
        go_wp2_with fail
        go_roundw
        case rel =>
          refine ⟨I + 1, HH.set I y, hlt, by go_num, by simpa using hHl, fun j hj => ?_, HST.out y, hBs _⟩
          rw [List.getElem?_set]
          by_cases e : I = j
          · subst e
            rw [if_pos rfl, if_pos hHI.out]
            exact hy2.out.symm
          · rw [if_neg e]
            exact hHH.out j (by omega)
        case measure => simp [intOf]; omega
      · obtain rfl : I = 32 := by omega
        have i1 : ¬ ((32 : Nat) : Int) < 32 := by omega
        obtain rfl : HH = m.h := List.ext_getElem? fun j => by
          by_cases hj : j < 32
          · exact hHH.out j hj
          · rw [List.getElem?_eq_none (by omega), List.getElem?_eq_none (by omega)]
        rw [HMM.out] at k8
        obtain ⟨wo, rfl⟩ : ∃ wo : World, wo = wr := ⟨_, rfl⟩
        have kR0 := k2.below hBr k2.lt
        have hgo : g < wo.heap.size := k8.lt
        have hRg : w.heap.size < w2.heap.size := k2.lt
        have hos := hBr.size
        clear q3 hrow hHH
        go_wp2_with fail
        have HU : Hid (∀ su : Value, m.u = m.u) := fun _ => rfl
        obtain ⟨U, hU⟩ : ∃ U, U = m.u := ⟨_, rfl⟩
        have HUE : Hid (U = m.u) := hU
        rw [← hU] at q4 u1 u2
        have HRC' : Hid (∀ (k : Nat) (hk : k < U.length), ∃ rb ro rc, (∀ V, Below w2.heap.size w2 V → V.cell? ⟨lb, lo + k, none⟩ = some (.slice (some ⟨rb, ro, none⟩) 1 rc)) ∧ (∀ V, Below w2.heap.size w2 V → V.cell? ⟨rb, ro, none⟩ = some (.int .u64 ((U[k]).toNat : Int)))) := by
          show ∀ _ _, _
          rw [hU]
          exact HRC.out
        clear HRC hU HU
        go_loopw [8] (fun i wr => ∃ (k : Nat) (su : Value), k ≤ U.length ∧ i = .int .i64 (k : Int) ∧ Blk wr g 25 (manC m su) ∧ OwnW wr wo.heap.size su (U.take k) ∧ Below w2.heap.size w2 wr ∧ Blk wr w.heap.size 25 Z ∧ wo.heap.size ≤ wr.heap.size) (fun i _ => U.length - (intOf i).toNat)
        case atStart => exact ⟨0, _, Nat.zero_le _, rfl, k8, by simpa using ownW_nil _ _, hBr, kR0, Nat.le_refl _⟩
        case round =>
          clear k8 hBr kR0
          obtain ⟨k, su, hk, rfl, k8, hown, hBr, kR, hsz⟩ := hrel
          have c14 : wr.cell? ⟨b, off + 14, none⟩ = some (.slice (some ⟨lb, lo, none⟩) U.length lc) := q4.out wr hBr
          by_cases hlt : k < U.length
          · obtain ⟨rb, ro, rc, hlk, qx⟩ := HRC'.out k hlt
            have HSF : Hid (U.take (k + 1) = U.take k ++ [U[k]]) := List.take_succ_eq_append_getElem hlt
            have hul : (U.take k).length ≤ 1000000 := by simp; omega
            obtain ⟨x, hx⟩ : ∃ x, x = U[k] := ⟨_, rfl⟩
            rw [← hx] at qx HSF
            have i1 : (k : Int) < (U.length : Int) := by omega
            have sB := hBr.size
            obtain ⟨su2, w7, hr2, ho2, hg2, _⟩ := app_word (wr.drew.alloc (.cells #[v32 x] 74)) wo.heap.size su (U.take k) (OwnW.alloc (show OwnW wr.drew _ _ _ from hown) _) wr.heap.size 1 x ((Blk.new wr.drew 74 #[v32 x]).cell (j := 0) rfl) hul (by rw [World.size_alloc]; show wo.heap.size ≤ wr.heap.size + 1; omega)
            have k8a := (show Blk wr.drew _ _ _ from k8).alloc (.cells #[v32 x] 74)
            have hne : some g ≠ su.ownBlock := fun e => by have := (hown.blocks _ e.symm).1; omega
            have hneR : some w.heap.size ≠ su.ownBlock := fun e => by have := (hown.blocks _ e.symm).1; omega
            have k87 := k8a.grown hg2 hne
            have kR7 := ((show Blk wr.drew _ _ _ from kR).alloc (.cells #[v32 x] 74)).grown hg2 hneR
            have hU1 : Below w2.heap.size w2 (wr.drew.alloc (.cells #[v32 x] 74)) := hBr.drew.alloc sB _
            have hB7 : Below w2.heap.size w2 w7 := below_grown hU1 hg2 (by rw [World.size_alloc]; show w2.heap.size ≤ wr.heap.size + 1; omega) (fun q hq => by have := (hown.blocks q hq).1; omega)
            have hs7 : wr.heap.size + 1 ≤ w7.heap.size := by have := hg2.size; rw [World.size_alloc] at this; exact this
            obtain ⟨au, cu, rfl, _⟩ := hown.wds
            obtain ⟨a2, c2, rfl, _⟩ := ho2.wds
            have c35 : wr.drew.cell? ⟨g, 35, none⟩ = some _ := (show Blk wr.drew _ _ _ from k8).cell (manC_35 _ _ hh)
            have c35a := k8a.cell (manC_35 _ _ hh)
            have c352 := k87.cell (manC_35 _ _ hh)
            have f352 : w7.frozen? ⟨g, 35, none⟩ = false := k87.frozen 35
            have HF : Hid (∀ z, Blk (w7.setCell ⟨g, 35, none⟩ z) g 25 (manC m z)) := fun z => (k87.set 35 z).of_eq (man_set _ _ _ hh)
            have HO : Hid (∀ z, OwnW (w7.setCell ⟨g, 35, none⟩ z) wo.heap.size (.slice a2 (U.take k ++ [x]).length c2) (U.take (k + 1))) := fun z => by
              rw [HSF.out]
              exact ho2.grown (grown_setCellM w7 g 35 z) (by
                cases hb : (Value.slice a2 (U.take k ++ [x]).length c2).ownBlock with
                | none => exact .inl rfl
                | some k => exact .inr (fun e => by have := (ho2.blocks k hb).1; cases e; omega))
            clear hown ho2 k8 k8a k87 hne hneR hg2 HSF hx HRC'
            generalize (U.take k ++ [x]).length = L2 at *
            generalize (U.take k).length = UL at *
            go_wp2_with fail
            have hU0 : Below w2.heap.size w2 wr.drew := hBr.drew
            refine held_begin (fun V => Below w2.heap.size w2 V) (by kernel_rfl) ?_
            refine held_take 0 58 _ (.pointer (some ⟨g, 35, none⟩)) rfl rfl (by kernel_rfl) (by kernel_rfl) (by kernel_rfl) rfl hU0 (fun _ _ => rfl) ?_
            simp only [Act.put, List.setIfInBounds_toArray, List.set_cons_succ, List.set_cons_zero]
            refine held_take 2 60 _ (.slice (some ⟨b, off, none⟩) 5 cv) rfl rfl (by kernel_rfl) (by kernel_rfl) (by kernel_rfl) rfl hU0 (fun _ _ => rfl) ?_
            simp only [Act.put, List.setIfInBounds_toArray, List.set_cons_succ, List.set_cons_zero]
            refine held_take 3 61 _ (.pointer (some ⟨b, off + 4 * 3, none⟩)) rfl rfl (by kernel_rfl) (by kernel_rfl) (by kernel_rfl) rfl hU0 (fun V _ => exec_indexat 42 _ _ rfl (.slice (some ⟨b, off, none⟩) 5 cv) (.int .i64 4) _ rfl rfl (idxM b off cv 4 4 rfl (by omega) V)) ?_
            simp only [Act.put, List.setIfInBounds_toArray, List.set_cons_succ, List.set_cons_zero]
            refine held_take 4 62 _ (.pointer (some ⟨b, off + 4 * 3 + 2, none⟩)) rfl rfl (by kernel_rfl) (by kernel_rfl) (by kernel_rfl) rfl hU0 (fun _ _ => rfl) ?_
            simp only [Act.put, List.setIfInBounds_toArray, List.set_cons_succ, List.set_cons_zero]
            refine held_take 5 63 _ (.slice (some ⟨lb, lo, none⟩) U.length lc) rfl rfl (by kernel_rfl) (by kernel_rfl) (by kernel_rfl) rfl hU0 (fun V hV => exec_loadc 66 _ rfl _ _ rfl (load_one 66 (fun _ => by kernel_rfl) V _ _ _ (q4.out V hV))) ?_
            simp only [Act.put, List.setIfInBounds_toArray, List.set_cons_succ, List.set_cons_zero]
            refine held_take 6 64 _ (.int .i64 (k : Int)) rfl rfl (by kernel_rfl) (by kernel_rfl) (by kernel_rfl) rfl hU0 (fun _ _ => rfl) ?_
            simp only [Act.put, List.setIfInBounds_toArray, List.set_cons_succ, List.set_cons_zero]
            refine held_take 7 65 _ (.pointer (some ⟨lb, lo + k, none⟩)) rfl rfl (by kernel_rfl) (by kernel_rfl) (by kernel_rfl) rfl hU0 (fun V _ => exec_indexat 66 _ _ rfl (.slice (some ⟨lb, lo, none⟩) U.length lc) (.int .i64 (k : Int)) _ rfl rfl (index_records lb lo U.length lc k V hlt)) ?_
            simp only [Act.put, List.setIfInBounds_toArray, List.set_cons_succ, List.set_cons_zero]
            refine held_take 8 66 _ (.slice (some ⟨rb, ro, none⟩) 1 rc) rfl rfl (by kernel_rfl) (by kernel_rfl) (by kernel_rfl) rfl hU0 (fun V hV => exec_loadc 42 _ rfl _ _ rfl (load_one 42 (fun _ => by kernel_rfl) V _ _ _ (hlk V hV))) ?_
            simp only [Act.put, List.setIfInBounds_toArray, List.set_cons_succ, List.set_cons_zero]
            refine held_take 9 67 _ (.pointer (some ⟨rb, ro, none⟩)) rfl rfl (by kernel_rfl) (by kernel_rfl) (by kernel_rfl) rfl hU0 (fun V _ => exec_indexat 42 _ _ rfl (.slice (some ⟨rb, ro, none⟩) 1 rc) (.int .i64 0) _ rfl rfl (idxO rb ro rc V)) ?_
            simp only [Act.put, List.setIfInBounds_toArray, List.set_cons_succ, List.set_cons_zero]
            refine held_take 10 68 _ (.pointer (some ⟨rb, ro, none⟩)) rfl rfl (by kernel_rfl) (by kernel_rfl) (by kernel_rfl) rfl hU0 (fun _ _ => rfl) ?_
            simp only [Act.put, List.setIfInBounds_toArray, List.set_cons_succ, List.set_cons_zero]
            refine held_take 11 69 _ (.int .u64 (x.toNat : Int)) rfl rfl (by kernel_rfl) (by kernel_rfl) (by kernel_rfl) rfl hU0 (fun V hV => exec_loadc 60 _ rfl _ _ rfl (load_one 60 (fun _ => by kernel_rfl) V _ _ _ (qx V hV))) ?_
            simp only [Act.put, List.setIfInBounds_toArray, List.set_cons_succ, List.set_cons_zero]
            refine held_take 12 70 _ (v32 x) rfl rfl (by kernel_rfl) (by kernel_rfl) (by kernel_rfl) rfl hU0 (fun V _ => exec_conv 60 74 _ rfl (.int .u64 (x.toNat : Int)) (v32 x) rfl (conv_w32M x V)) ?_
            simp only [Act.put, List.setIfInBounds_toArray, List.set_cons_succ, List.set_cons_zero]
            refine held_all2 1 13 (by kernel_rfl) ?_ ?_
            · refine op_value 1 59 _ (.slice au UL cu) _ rfl rfl rfl (exec_loadc 23 _ rfl _ _ rfl (load_one 23 (fun _ => by kernel_rfl) _ _ _ _ c35)) ⟨hU0, ?_⟩
              simp only [Act.put, List.setIfInBounds_toArray, List.set_cons_succ, List.set_cons_zero]
              refine held_all1 13 (by kernel_rfl) (op_value 13 71 _ (.slice (some ⟨wr.heap.size, 0, none⟩) 1 1) _ rfl rfl rfl (exec_word _ rfl _ rfl) ⟨hU1, ?_⟩)
              simp only [Act.put, List.setIfInBounds_toArray, List.set_cons_succ, List.set_cons_zero]
              refine held_all1 14 (by kernel_rfl) (op_value 14 72 _ (.slice a2 L2 c2) w7 rfl rfl rfl (exec_app _ _ 23 23 rfl (.slice au UL cu) (.slice (some ⟨wr.heap.size, 0, none⟩) 1 1) (.slice a2 L2 c2) rfl rfl hr2) ⟨hB7, ?_⟩)
              simp only [Act.put, List.setIfInBounds_toArray, List.set_cons_succ, List.set_cons_zero]
              refine held_take 15 73 _ (.pointer (some ⟨g, 35, none⟩)) rfl rfl (by kernel_rfl) (by kernel_rfl) (by kernel_rfl) rfl hB7 (fun _ _ => rfl) ?_
              simp only [Act.put, List.setIfInBounds_toArray, List.set_cons_succ, List.set_cons_zero]
              refine held_all1 16 (by kernel_rfl) (op_skip 16 _ _ rfl rfl rfl (exec_storew _ _ rfl _ _ _ _ _ rfl rfl c352 f352) ⟨hB7.setCell (p := ⟨g, 35, none⟩) hgW _, ?_⟩)
              refine wpAnyH_done (by kernel_rfl) ?_ _
              refine NoPanic.normal ?_
              clear c35 c35a c352 f352 hr2
              go_wp2
              go_roundw
              case rel => exact ⟨k + 1, _, hlt, by go_num, HF.out _, HO.out _, hB7.setCell (p := ⟨g, 35, none⟩) hgW _, kR7.setOther _ _ hgne, by simp; omega⟩
              case measure => simp [intOf]; omega
            · refine op_value 13 71 _ (.slice (some ⟨wr.heap.size, 0, none⟩) 1 1) _ rfl rfl rfl (exec_word _ rfl _ rfl) ⟨hU1, ?_⟩
              simp only [Act.put, List.setIfInBounds_toArray, List.set_cons_succ, List.set_cons_zero]
              refine held_all1 1 (by kernel_rfl) (op_value 1 59 _ (.slice au UL cu) _ rfl rfl rfl (exec_loadc 23 _ rfl _ _ rfl (load_one 23 (fun _ => by kernel_rfl) _ _ _ _ c35a)) ⟨hU1, ?_⟩)
              simp only [Act.put, List.setIfInBounds_toArray, List.set_cons_succ, List.set_cons_zero]
              refine held_all1 14 (by kernel_rfl) (op_value 14 72 _ (.slice a2 L2 c2) w7 rfl rfl rfl (exec_app _ _ 23 23 rfl (.slice au UL cu) (.slice (some ⟨wr.heap.size, 0, none⟩) 1 1) (.slice a2 L2 c2) rfl rfl hr2) ⟨hB7, ?_⟩)
              simp only [Act.put, List.setIfInBounds_toArray, List.set_cons_succ, List.set_cons_zero]
              refine held_take 15 73 _ (.pointer (some ⟨g, 35, none⟩)) rfl rfl (by kernel_rfl) (by kernel_rfl) (by kernel_rfl) rfl hB7 (fun _ _ => rfl) ?_
              simp only [Act.put, List.setIfInBounds_toArray, List.set_cons_succ, List.set_cons_zero]
              refine held_all1 16 (by kernel_rfl) (op_skip 16 _ _ rfl rfl rfl (exec_storew _ _ rfl _ _ _ _ _ rfl rfl c352 f352) ⟨hB7.setCell (p := ⟨g, 35, none⟩) hgW _, ?_⟩)
              refine wpAnyH_done (by kernel_rfl) ?_ _
              refine NoPanic.normal ?_
              clear c35 c35a c352 f352 hr2
              go_wp2
              go_roundw
              case rel => exact ⟨k + 1, _, hlt, by go_num, HF.out _, HO.out _, hB7.setCell (p := ⟨g, 35, none⟩) hgW _, kR7.setOther _ _ hgne, by simp; omega⟩
              case measure => simp [intOf]; omega
          · obtain rfl : k = U.length := by omega
            have i1 : ¬ (U.length : Int) < (U.length : Int) := by omega
            rw [List.take_of_length_le (Nat.le_refl _), HUE.out] at hown
            have hu8 := hown.wds
            have hi8 := manC_info m su hh
            have ho8 := manC_one m su hu8.one
            have hz8 := HSZ.out m su hh
            have HVM : Hid (manV m su = .agg (manC m su)) := rfl
            have HRT : Hid (Calls Try.prog 24 #[manV m su] wr fun e w' => e = .returned (.bool (decide (okM m))) ∧ Below wr.heap.size wr w') := rmright_any m su wr hh (by rw [← HUE.out]; omega) hu8
            have hul : m.u.length ≤ 128 := by rw [← HUE.out]; exact u2
            clear HRC' q4 HSZ
            unfold manV at HRT
            generalize manC m su = MR at *
            go_wp2_with (refine wpList_load_row rfl 25 _ rfl g rfl 25 MR (0, 0) _ k8 Try.underlying25 rfl hi8 ?_)
            refine HRT.out.mono ?_
            rintro e w9 ⟨rfl, hb9⟩
            have k89 := k8.below hb9 k8.lt
            have kR9 := kR.below hb9 kR.lt
            have hB9 : Below w.heap.size w w9 := (hB2.trans (hBr.mono hB2.size)).trans (hb9.mono (hB2.trans (hBr.mono hB2.size)).size)
            have hown9 : OwnW w9 wo.heap.size su m.u := hown.grown (row := none) ⟨hb9.os, hb9.tape, hb9.output, hb9.size, fun i hi _ => hb9.block i hi⟩ (by cases su.ownBlock <;> simp)
            clear HRT k8 kR hBr hb9 hown hu8
            by_cases hok : okM m
            · rw [decide_eq_true hok]
              go_wp2_with (first | (refine wpList_load_row rfl 25 _ rfl g rfl 25 MR (0, 0) _ k89 Try.underlying25 rfl hi8 ?_) | (refine store_blk rfl 25 _ _ rfl rfl w.heap.size MR rfl rfl 25 Z kR9 hi8 hz8 ho8 ?_; intro W6 k6 hg6 hs6))
              have hB6 : Below w.heap.size w W6 := below_grown hB9 hg6 hB9.size (fun q hq => by cases hq; omega)
              have hu6 : Wds W6 su m.u := (hown9.grown hg6 (.inr (fun e => by have := (hown9.blocks _ e).1; omega))).wds
              refine bodyPost_ret (v := .tuple #[.agg MR, .int .i64 0]) (results_pairM rfl _ _ w.heap.size 25 MR (0, 0) _ _ rfl rfl k6 Try.underlying25 rfl hi8) rfl ?_
              exact ⟨m, su, 0, congrArg (fun x => Ending.returned (.tuple #[x, .int .i64 0])) HVM.out.symm, ⟨hh, hul, hu6, .inl ⟨rfl, hok, henc'.out⟩⟩, hB6⟩
            · rw [decide_eq_false hok]
              go_wp2_with (first | (refine build_as rfl 25 _ rfl Z (by exact hbz) ?_) | (refine store_blk rfl 25 _ _ rfl rfl w.heap.size Z rfl rfl 25 Z kR9 hiZ rfl hoZ ?_; intro W6 k6 hg6 hs6))
              have hB6 : Below w.heap.size w W6 := below_grown hB9 hg6 hB9.size (fun q hq => by cases hq; omega)
              refine bodyPost_ret (v := .tuple #[.agg Z, .int .i64 2]) (results_pairM rfl _ _ w.heap.size 25 Z (0, 0) _ _ rfl rfl k6 Try.underlying25 rfl hiZ) rfl ?_
              exact ⟨zeroM, .slice none 0 0, 2, congrArg (fun x => Ending.returned (.tuple #[x, .int .i64 2])) HVZ.out.symm, HZ.out W6 (dec_not hIB hok henc'.out), hB6⟩
end Go.Proofs.Ytgfcindkfnjeoaa
