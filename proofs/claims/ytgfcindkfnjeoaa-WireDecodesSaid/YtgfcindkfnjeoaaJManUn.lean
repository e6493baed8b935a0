/-
  What is proved here: manifest.manifestOf answers the manifest of its values; so manifest.Decode answers the manifest whose bytes these are, or that there is none.
  Conditions: the numbers lie in the fields' bounds.
-/
import Derived.Test.YtgfcindkfnjeoaaJManFrom
namespace Go.Proofs.Ytgfcindkfnjeoaa
open Go.RowKit

theorem idxM (b off c : Nat) (z : Int) (I : Nat) (hz : z = (I : Int)) (h : I < 5) (w : World) : (Instr.indexAt 42 (.slice (some ⟨b, off, none⟩) 5 c) (.int .i64 z)).run Try.prog w = .ok (.pointer (some ⟨b, off + I * 3, none⟩)) w := by
  subst hz
  exact index_values b off 5 c I w h
theorem idxO (b off c : Nat) (w : World) : (Instr.indexAt 42 (.slice (some ⟨b, off, none⟩) 1 c) (.int .i64 0)).run Try.prog w = .ok (.pointer (some ⟨b, off, none⟩)) w := by
  have := index_values b off 1 c 0 w (by omega)
  simpa using this
theorem grown_setRowM (w : World) (g : Nat) (c : Array Value) : w.grownBy (w.setRow g c) (some g) := ⟨rfl, rfl, rfl, by simp, fun k _ hk => setRow_other w g k _ (fun e => hk (by rw [e]))⟩
theorem ownW_mono {w : World} {base base' : Nat} {v : Value} {u : List (BitVec 32)} (h : OwnW w base v u) (hb : base' ≤ base) : OwnW w base' v u := by
  refine ⟨h.1, ?_⟩
  rcases h.2 with h2 | ⟨g, cap, cur, h1, h2, h3⟩
  · exact .inl h2
  · exact .inr ⟨g, cap, cur, h1, Nat.le_trans hb h2, h3⟩
theorem results_oneM {P : Program} {fn : Func} {p : Tmp} {ty : TypeId} (h : fn.results = #[.cell p ty]) (tmps : Array Value) (w : World) (g : Nat) (t : TypeId) (cs : Array Value) (fr : Nat × Nat) (d : TypeDesc)
    (hp : tmps.getD p undef = .pointer (some ⟨g, 0, none⟩)) (hg : w.heap[g]? = some (.cells cs t fr))
    (hu : P.underlying ty = some d) (hd : (match d with | .struct _ | .array _ _ => true | _ => false) = true) (hi : (P.info? ty).map (·.size) = some cs.size) :
    (results fn tmps).run P w = .ok (.agg cs) w := by
  have hp' : tmps[p]?.getD undef = .pointer (some ⟨g, 0, none⟩) := by simpa using hp
  simp [results, h, hp', asAddr, run_loadVar_row w g t ty cs fr d hg hu hd hi]
set_option maxRecDepth 100000 in
set_option maxHeartbeats 4000000 in
theorem mof_any (m : MM) (v : Value) (W : World) (hI : InB m) (hV : Vals W 4 v (manVs m)) :
    Calls Try.prog 66 #[v] W fun e w' => ∃ su, e = .returned (manV m su) ∧ OwnW w' W.heap.size su m.u ∧ Below W.heap.size W w' := by
  obtain ⟨ao, cv, rfl, _, hf⟩ := hV
  obtain ⟨b, off, rfl, hbl, hcc, hA⟩ := hf (by simp [manVs])
  have h5 : (manVs m).length = 5 := rfl
  rw [h5] at hcc ⊢
  have hh := hI.h
  obtain ⟨⟨v1, v2⟩, ⟨s1, s2⟩, ⟨d1, d2⟩, _, ⟨u1, u2⟩, _⟩ := hI
  obtain ⟨vn, hvn⟩ : ∃ n : Nat, m.v = n := ⟨m.v.toNat, by omega⟩
  obtain ⟨sn, hsn⟩ : ∃ n : Nat, m.s = n := ⟨m.s.toNat, by omega⟩
  obtain ⟨cn, hcn⟩ : ∃ n : Nat, m.c = n := ⟨m.c.toNat, by omega⟩
  have e0 := hA 0 (.mk m.v.toNat [] []) rfl
  have e1 := hA 1 (.mk m.s.toNat [] []) rfl
  have e2 := hA 2 (.mk m.c.toNat [] []) rfl
  obtain ⟨_, ⟨hbv, e3, hsg, _⟩, _, _⟩ := hA 3 (.mk 0 m.h []) rfl
  obtain ⟨_, _, ⟨la, lc, e4, _, hrec⟩, _⟩ := hA 4 (.mk 0 [] (m.u.map sumV)) rfl
  have e0 := e0.1
  have e1 := e1.1
  have e2 := e2.1
  simp only [Val.n, Val.b, Val.l, hvn, hsn, hcn, Int.toNat_natCast, List.length_map] at e0 e1 e2 hsg e4 hrec
  obtain ⟨lb, lo, rfl, hlb, hlc, hrec⟩ := hrec (by omega)
  obtain ⟨hb, ho, hc, rfl, hcap, hr, hbl2⟩ : ∃ hb ho hc, hbv = .slice (some ⟨hb, ho, none⟩) 32 hc ∧ 32 ≤ hc ∧ Row W hb ho m.h ∧ hb < W.heap.size := by
    rcases hsg with ⟨h0, _⟩ | ⟨hb, ho, hc, h1, h2, h3, h4⟩
    · rw [h0] at hh; cases hh
    · rw [hh] at h1 h2
      exact ⟨hb, ho, hc, h1, h2, h3, h4⟩
  have q0 : ∀ V, Below W.heap.size W V → V.cell? ⟨b, off + 0 * 3, none⟩ = some (.int .u64 (vn : Int)) := fun V h => (h.cell (p := ⟨b, off + 0 * 3, none⟩) hbl).trans e0
  have q1 : ∀ V, Below W.heap.size W V → V.cell? ⟨b, off + 1 * 3, none⟩ = some (.int .u64 (sn : Int)) := fun V h => (h.cell (p := ⟨b, off + 1 * 3, none⟩) hbl).trans e1
  have q2 : ∀ V, Below W.heap.size W V → V.cell? ⟨b, off + 2 * 3, none⟩ = some (.int .u64 (cn : Int)) := fun V h => (h.cell (p := ⟨b, off + 2 * 3, none⟩) hbl).trans e2
  have q3 : ∀ V, Below W.heap.size W V → V.cell? ⟨b, off + 3 * 3 + 1, none⟩ = some (.slice (some ⟨hb, ho, none⟩) 32 hc) := fun V h => (h.cell (p := ⟨b, off + 3 * 3 + 1, none⟩) hbl).trans e3
  have q4 : ∀ V, Below W.heap.size W V → V.cell? ⟨b, off + 4 * 3 + 2, none⟩ = some (.slice (some ⟨lb, lo, none⟩) m.u.length lc) := fun V h => (h.cell (p := ⟨b, off + 4 * 3 + 2, none⟩) hbl).trans e4
  have hrow : ∀ V, Below W.heap.size W V → Row V hb ho m.h := fun V h j hj => (h.cell (p := ⟨hb, ho + j, none⟩) hbl2).trans (hr j hj)
  have HRC : Hid (∀ (k : Nat) (hk : k < m.u.length), ∃ rb ro rc, (∀ V, Below W.heap.size W V → V.cell? ⟨lb, lo + k, none⟩ = some (.slice (some ⟨rb, ro, none⟩) 1 rc)) ∧ (∀ V, Below W.heap.size W V → V.cell? ⟨rb, ro, none⟩ = some (.int .u64 ((m.u[k]).toNat : Int)))) := fun k hk => by
    obtain ⟨rv, h1, ao, rc, rfl, _, h3⟩ := hrec k (sumV m.u[k]) (by simp [hk])
    obtain ⟨rb, ro, rfl, h4, h5, h6⟩ := h3 (by simp [sumV])
    have h7 := (h6 0 (.mk (m.u[k]).toNat [] []) rfl).1
    simp only [Val.n, Nat.zero_mul, Nat.add_zero] at h7
    exact ⟨rb, ro, rc, fun V h => (h.cell (p := ⟨lb, lo + k, none⟩) hlb).trans h1, fun V h => (h.cell (p := ⟨rb, ro, none⟩) h4).trans h7⟩
  have hb3 := built_three vn sn cn
  have hi3 : (Try.prog.info? 25).map (·.size) = some (manC ⟨vn, sn, cn, List.replicate 32 0, []⟩ (.slice none 0 0)).size := manC_info _ _ (by simp)
  have ho3 := manC_one ⟨vn, sn, cn, List.replicate 32 0, []⟩ (.slice none 0 0) rfl
  have hsz3 : (manC zeroM (.slice none 0 0)).size = (manC ⟨vn, sn, cn, List.replicate 32 0, []⟩ (.slice none 0 0)).size := size_zeroMan _ _ (by simp)
  have hs3 : (manC ⟨vn, sn, cn, List.replicate 32 0, []⟩ (.slice none 0 0)).size = 36 := manC_size _ _ (by simp)
  have HSP : Hid ((splice (manC ⟨vn, sn, cn, List.replicate 32 0, []⟩ (.slice none 0 0)).toList 3 (m.h.map v8)).toArray = manC m (.slice none 0 0)) := by
    show _ = _
    rw [splice_hashM vn sn cn m.h hh]
    unfold manC manL
    rw [hvn, hsn, hcn]
  have hz0 := zeroMan
  have cv0 := conv_i64M vn (by omega)
  have cv1 := conv_i64M sn (by omega)
  have cv2 := conv_i64M cn (by omega)
  have HAZ : Hid (∀ {a : Act} {o : Oper} {w : World} (_ : o.op = .alloc 25), (execOp a.eval o).run Try.prog w = .ok (.value (.pointer (some ⟨w.heap.size, 0, none⟩))) (w.alloc (.cells (manC zeroM (.slice none 0 0)) 25))) := fun h => exec_allocM h
  clear hA hrec hr hsg e0 e1 e2 e3 e4 v1 v2 s1 s2 d1 d2 hvn hsn hcn hcap
  obtain ⟨Z, hZ⟩ : ∃ Z, Z = manC zeroM (.slice none 0 0) := ⟨_, rfl⟩
  obtain ⟨M3, hM3⟩ : ∃ M3, M3 = manC ⟨vn, sn, cn, List.replicate 32 0, []⟩ (.slice none 0 0) := ⟨_, rfl⟩
  have HZ : Hid (Z = manC zeroM (.slice none 0 0)) := hZ
  simp only [← hM3] at hb3 hi3 ho3 hsz3 hs3 HSP
  simp only [← hZ] at hsz3 hz0 HAZ
  clear hZ hM3
  have k60 := Blk.new W 25 Z
  have hB1 := (Below.refl W.heap.size W).alloc (Nat.le_refl _) (.cells Z 25)
  go_enter Try.func66, Try.ntmps66
  go_wp2_with fail
  obtain ⟨W1, hW1⟩ : ∃ W1, W1 = W.alloc (.cells Z 25) := ⟨_, rfl⟩
  rw [← hW1] at k60 hB1 ⊢
  have exec_allocZ : ∀ {a : Act} {o : Oper} {w : World} (_ : o.op = .alloc 25), (execOp a.eval o).run Try.prog w = .ok (.value (.pointer (some ⟨w.heap.size, 0, none⟩))) (w.alloc (.cells Z 25)) := HAZ.out
  have k61 : Blk (W1.drew.alloc (.cells Z 25)) W1.heap.size 25 Z := Blk.new _ _ _
  have hS2 : Below W.heap.size W ((W1.drew.alloc (.cells Z 25)).setRow W1.heap.size M3) := below_grown (hB1.drew.alloc hB1.size _) (grown_setRowM _ _ _) (by rw [World.size_alloc]; have := hB1.size; show _ ≤ W1.heap.size + 1; omega) (fun q hq => by cases hq; exact hB1.size)
  have hS0 : Below W.heap.size W W1.drew := hB1.drew
  refine held_begin (fun V => Below W.heap.size W V) (by kernel_rfl) ?_
  refine held_take 0 6 _ (.slice (some ⟨b, off, none⟩) 5 cv) rfl rfl (by kernel_rfl) (by kernel_rfl) (by kernel_rfl) rfl hS0 (fun _ _ => rfl) ?_
  simp only [Act.put, List.setIfInBounds_toArray, List.set_cons_succ, List.set_cons_zero]
  refine held_take 1 7 _ (.pointer (some ⟨b, off + 0 * 3, none⟩)) rfl rfl (by kernel_rfl) (by kernel_rfl) (by kernel_rfl) rfl hS0 (fun V _ => exec_indexat 42 _ _ rfl (.slice (some ⟨b, off, none⟩) 5 cv) (.int .i64 0) _ rfl rfl (idxM b off cv 0 0 rfl (by omega) V)) ?_
  simp only [Act.put, List.setIfInBounds_toArray, List.set_cons_succ, List.set_cons_zero]
  refine held_take 2 8 _ (.pointer (some ⟨b, off + 0 * 3, none⟩)) rfl rfl (by kernel_rfl) (by kernel_rfl) (by kernel_rfl) rfl hS0 (fun _ _ => rfl) ?_
  simp only [Act.put, List.setIfInBounds_toArray, List.set_cons_succ, List.set_cons_zero]
  refine held_take 3 9 _ (.int .u64 (vn : Int)) rfl rfl (by kernel_rfl) (by kernel_rfl) (by kernel_rfl) rfl hS0 (fun V hV => exec_loadc 60 _ rfl _ _ rfl (load_one 60 (fun _ => by kernel_rfl) V _ _ _ (q0 V hV))) ?_
  simp only [Act.put, List.setIfInBounds_toArray, List.set_cons_succ, List.set_cons_zero]
  refine held_take 4 10 _ (.int .i64 (vn : Int)) rfl rfl (by kernel_rfl) (by kernel_rfl) (by kernel_rfl) rfl hS0 (fun V _ => exec_conv 60 3 _ rfl (.int .u64 (vn : Int)) (.int .i64 (vn : Int)) rfl (cv0 V)) ?_
  simp only [Act.put, List.setIfInBounds_toArray, List.set_cons_succ, List.set_cons_zero]
  refine held_take 5 11 _ (.slice (some ⟨b, off, none⟩) 5 cv) rfl rfl (by kernel_rfl) (by kernel_rfl) (by kernel_rfl) rfl hS0 (fun _ _ => rfl) ?_
  simp only [Act.put, List.setIfInBounds_toArray, List.set_cons_succ, List.set_cons_zero]
  refine held_take 6 12 _ (.pointer (some ⟨b, off + 1 * 3, none⟩)) rfl rfl (by kernel_rfl) (by kernel_rfl) (by kernel_rfl) rfl hS0 (fun V _ => exec_indexat 42 _ _ rfl (.slice (some ⟨b, off, none⟩) 5 cv) (.int .i64 1) _ rfl rfl (idxM b off cv 1 1 rfl (by omega) V)) ?_
  simp only [Act.put, List.setIfInBounds_toArray, List.set_cons_succ, List.set_cons_zero]
  refine held_take 7 13 _ (.pointer (some ⟨b, off + 1 * 3, none⟩)) rfl rfl (by kernel_rfl) (by kernel_rfl) (by kernel_rfl) rfl hS0 (fun _ _ => rfl) ?_
  simp only [Act.put, List.setIfInBounds_toArray, List.set_cons_succ, List.set_cons_zero]
  refine held_take 8 14 _ (.int .u64 (sn : Int)) rfl rfl (by kernel_rfl) (by kernel_rfl) (by kernel_rfl) rfl hS0 (fun V hV => exec_loadc 60 _ rfl _ _ rfl (load_one 60 (fun _ => by kernel_rfl) V _ _ _ (q1 V hV))) ?_
  simp only [Act.put, List.setIfInBounds_toArray, List.set_cons_succ, List.set_cons_zero]
  refine held_take 9 15 _ (.int .i64 (sn : Int)) rfl rfl (by kernel_rfl) (by kernel_rfl) (by kernel_rfl) rfl hS0 (fun V _ => exec_conv 60 3 _ rfl (.int .u64 (sn : Int)) (.int .i64 (sn : Int)) rfl (cv1 V)) ?_
  simp only [Act.put, List.setIfInBounds_toArray, List.set_cons_succ, List.set_cons_zero]
  refine held_take 10 16 _ (.slice (some ⟨b, off, none⟩) 5 cv) rfl rfl (by kernel_rfl) (by kernel_rfl) (by kernel_rfl) rfl hS0 (fun _ _ => rfl) ?_
  simp only [Act.put, List.setIfInBounds_toArray, List.set_cons_succ, List.set_cons_zero]
  refine held_take 11 17 _ (.pointer (some ⟨b, off + 2 * 3, none⟩)) rfl rfl (by kernel_rfl) (by kernel_rfl) (by kernel_rfl) rfl hS0 (fun V _ => exec_indexat 42 _ _ rfl (.slice (some ⟨b, off, none⟩) 5 cv) (.int .i64 2) _ rfl rfl (idxM b off cv 2 2 rfl (by omega) V)) ?_
  simp only [Act.put, List.setIfInBounds_toArray, List.set_cons_succ, List.set_cons_zero]
  refine held_take 12 18 _ (.pointer (some ⟨b, off + 2 * 3, none⟩)) rfl rfl (by kernel_rfl) (by kernel_rfl) (by kernel_rfl) rfl hS0 (fun _ _ => rfl) ?_
  simp only [Act.put, List.setIfInBounds_toArray, List.set_cons_succ, List.set_cons_zero]
  refine held_take 13 19 _ (.int .u64 (cn : Int)) rfl rfl (by kernel_rfl) (by kernel_rfl) (by kernel_rfl) rfl hS0 (fun V hV => exec_loadc 60 _ rfl _ _ rfl (load_one 60 (fun _ => by kernel_rfl) V _ _ _ (q2 V hV))) ?_
  simp only [Act.put, List.setIfInBounds_toArray, List.set_cons_succ, List.set_cons_zero]
  refine held_take 14 20 _ (.int .i64 (cn : Int)) rfl rfl (by kernel_rfl) (by kernel_rfl) (by kernel_rfl) rfl hS0 (fun V _ => exec_conv 60 3 _ rfl (.int .u64 (cn : Int)) (.int .i64 (cn : Int)) rfl (cv2 V)) ?_
  simp only [Act.put, List.setIfInBounds_toArray, List.set_cons_succ, List.set_cons_zero]
  refine held_take 15 21 _ (.agg M3) rfl rfl (by kernel_rfl) (by kernel_rfl) (by kernel_rfl) rfl hS0 (fun V _ => exec_buildM _ _ rfl _ hb3) ?_
  simp only [Act.put, List.setIfInBounds_toArray, List.set_cons_succ, List.set_cons_zero]
  refine held_all1 16 (by kernel_rfl) (op_value 16 3 _ (.pointer (some ⟨W1.heap.size, 0, none⟩)) _ rfl rfl rfl (exec_allocZ rfl) ⟨hS0.alloc hB1.size _, ?_⟩)
  simp only [Act.put, List.setIfInBounds_toArray, List.set_cons_succ, List.set_cons_zero]
  refine held_all1 17 (by kernel_rfl) (op_skip 17 _ _ rfl rfl rfl (exec_storeM 25 _ _ rfl W1.heap.size M3 rfl rfl 25 Z (Blk.new _ _ _) hi3 hsz3 ho3) ⟨hS2, ?_⟩)
  refine wpAnyH_done (by kernel_rfl) ?_ _
  refine NoPanic.normal ?_
  have k82' : Blk ((W1.drew.alloc (.cells Z 25)).setRow W1.heap.size M3) W1.heap.size 25 M3 := k61.setRow M3
  have k62' : Blk ((W1.drew.alloc (.cells Z 25)).setRow W1.heap.size M3) W.heap.size 25 Z := ((show Blk W1.drew _ _ _ from k60).alloc _).grown (grown_setRowM _ _ _) (fun e => by have := k60.lt; have := Option.some.inj e; omega)
  obtain ⟨W2, hW2⟩ : ∃ W2, W2 = (W1.drew.alloc (.cells Z 25)).setRow W1.heap.size M3 := ⟨_, rfl⟩
  obtain ⟨g, hg⟩ : ∃ g, g = W1.heap.size := ⟨_, rfl⟩
  have hgW : W.heap.size ≤ g := by rw [hg]; exact hB1.size
  have hgne : W.heap.size ≠ g := by rw [hg]; have := k60.lt; omega
  rw [← hW2, ← hg] at k82'
  rw [← hW2] at k62' hS2
  rw [← hW2, ← hg]
  have k82 : Blk W2 g 25 M3 := k82'
  have hB2 : Below W.heap.size W W2 := hS2
  have k62 : Blk W2 W.heap.size 25 Z := k62'
  clear k82' k62' hS2 hW2 hg k61 k60 hB1 hW1 exec_allocZ HAZ cv0 cv1 cv2 hb3 hi3 ho3 hS0 q0 q1 q2
  go_wp2_with fail
  have hT0 : Below W.heap.size W W2.drew := hB2.drew
  refine held_begin (fun V => Below W.heap.size W V) (by kernel_rfl) ?_
  refine held_take 0 22 _ (.pointer (some ⟨g, 3, none⟩)) rfl rfl (by kernel_rfl) (by kernel_rfl) (by kernel_rfl) rfl hT0 (fun _ _ => rfl) ?_
  simp only [Act.put, List.setIfInBounds_toArray, List.set_cons_succ, List.set_cons_zero]
  refine held_take 1 23 _ (.slice (some ⟨g, 3, none⟩) 32 32) rfl rfl (by kernel_rfl) (by kernel_rfl) (by kernel_rfl) rfl hT0 (fun _ _ => by kernel_rfl) ?_
  simp only [Act.put, List.setIfInBounds_toArray, List.set_cons_succ, List.set_cons_zero]
  refine held_take 2 24 _ (.slice (some ⟨b, off, none⟩) 5 cv) rfl rfl (by kernel_rfl) (by kernel_rfl) (by kernel_rfl) rfl hT0 (fun _ _ => rfl) ?_
  simp only [Act.put, List.setIfInBounds_toArray, List.set_cons_succ, List.set_cons_zero]
  refine held_take 3 25 _ (.pointer (some ⟨b, off + 3 * 3, none⟩)) rfl rfl (by kernel_rfl) (by kernel_rfl) (by kernel_rfl) rfl hT0 (fun V _ => exec_indexat 42 _ _ rfl (.slice (some ⟨b, off, none⟩) 5 cv) (.int .i64 3) _ rfl rfl (idxM b off cv 3 3 rfl (by omega) V)) ?_
  simp only [Act.put, List.setIfInBounds_toArray, List.set_cons_succ, List.set_cons_zero]
  refine held_take 4 26 _ (.pointer (some ⟨b, off + 3 * 3 + 1, none⟩)) rfl rfl (by kernel_rfl) (by kernel_rfl) (by kernel_rfl) rfl hT0 (fun _ _ => rfl) ?_
  simp only [Act.put, List.setIfInBounds_toArray, List.set_cons_succ, List.set_cons_zero]
  refine held_take 5 27 _ (.slice (some ⟨hb, ho, none⟩) 32 hc) rfl rfl (by kernel_rfl) (by kernel_rfl) (by kernel_rfl) rfl hT0 (fun V hV => exec_loadc 26 _ rfl _ _ rfl (load_one 26 (fun _ => by kernel_rfl) V _ _ _ (q3 V hV))) ?_
  simp only [Act.put, List.setIfInBounds_toArray, List.set_cons_succ, List.set_cons_zero]
  obtain ⟨W3, hrun3, k83, hg3⟩ := exec_copyM (w := W2.drew) g 3 hb ho hc M3 25 (show Blk W2.drew _ _ _ from k82) m.h hh (hrow W2.drew hT0) (by rw [hs3]; omega)
  refine held_all1 6 (by kernel_rfl) (op_value 6 28 _ (.int .i64 32) W3 rfl rfl rfl (hrun3 _ _ _ _ rfl rfl rfl) ⟨below_grown hT0 hg3 hB2.size (fun q hq => by cases hq; exact hgW), ?_⟩)
  simp only [Act.put, List.setIfInBounds_toArray, List.set_cons_succ, List.set_cons_zero]
  refine wpAnyH_done (by kernel_rfl) ?_ _
  refine NoPanic.normal ?_
  have hB3 : Below W.heap.size W W3 := below_grown hT0 hg3 hB2.size (fun q hq => by cases hq; exact hgW)
  have k63 : Blk W3 W.heap.size 25 Z := (show Blk W2.drew _ _ _ from k62).grown hg3 (fun e => by cases e; omega)
  rw [HSP.out] at k83
  have hg3l : g < W3.heap.size := k83.lt
  have c4 : W3.cell? ⟨b, off + 14, none⟩ = some (.slice (some ⟨lb, lo, none⟩) m.u.length lc) := q4 W3 hB3
  clear hT0 k82 k62 hB2 hrun3 hg3 HSP hsz3 hs3 q3 hrow q4
  go_wp2_with fail
  clear c4
  go_loopw [34] (fun i wr => ∃ (k : Nat) (su : Value), k ≤ m.u.length ∧ i = .int .i64 (k : Int) ∧ Blk wr g 25 (manC m su) ∧ OwnW wr W3.heap.size su (m.u.take k) ∧ Below W.heap.size W wr ∧ Blk wr W.heap.size 25 Z ∧ W3.heap.size ≤ wr.heap.size) (fun i _ => m.u.length - (intOf i).toNat)
  case atStart => exact ⟨0, _, Nat.zero_le _, rfl, k83, by simpa using ownW_nil _ _, hB3, k63, Nat.le_refl _⟩
  case round =>
    clear k83 hB3 k63
    obtain ⟨k, su, hk, rfl, k8, hown, hBr, k6, hsz⟩ := hrel
    by_cases hlt : k < m.u.length
    · obtain ⟨rb, ro, rc, hlk, qx⟩ := HRC.out k hlt
      have cl := hlk wr hBr
      have HSF : Hid (m.u.take (k + 1) = m.u.take k ++ [m.u[k]]) := List.take_succ_eq_append_getElem hlt
      have hul : (m.u.take k).length ≤ 1000000 := by simp; omega
      obtain ⟨x, hx⟩ : ∃ x, x = m.u[k] := ⟨_, rfl⟩
      rw [← hx] at qx HSF
      have i1 : (k : Int) < (m.u.length : Int) := by omega
      have sB := hBr.size
      obtain ⟨su2, w2, hr2, ho2, hg2, _⟩ := app_word (wr.drew.alloc (.cells #[v32 x] 74)) W3.heap.size su (m.u.take k) (OwnW.alloc (show OwnW wr.drew _ _ _ from hown) _) wr.heap.size 1 x ((Blk.new wr.drew 74 #[v32 x]).cell (j := 0) rfl) hul (by rw [World.size_alloc]; show W3.heap.size ≤ wr.heap.size + 1; omega)
      have k8a := (show Blk wr.drew _ _ _ from k8).alloc (.cells #[v32 x] 74)
      have hne : some g ≠ su.ownBlock := fun e => by have := (hown.blocks _ e.symm).1; omega
      have hne6 : some W.heap.size ≠ su.ownBlock := fun e => by have := (hown.blocks _ e.symm).1; have := hgne; omega
      have k82 := k8a.grown hg2 hne
      have k62 := ((show Blk wr.drew _ _ _ from k6).alloc (.cells #[v32 x] 74)).grown hg2 hne6
      have hU1 : Below W.heap.size W (wr.drew.alloc (.cells #[v32 x] 74)) := hBr.drew.alloc sB _
      have hB2 : Below W.heap.size W w2 := below_grown hU1 hg2 (by rw [World.size_alloc]; show W.heap.size ≤ wr.heap.size + 1; omega) (fun q hq => by have := (hown.blocks q hq).1; omega)
      have hs2 : wr.heap.size + 1 ≤ w2.heap.size := by have := hg2.size; rw [World.size_alloc] at this; exact this
      obtain ⟨au, cu, rfl, _⟩ := hown.wds
      obtain ⟨a2, c2, rfl, _⟩ := ho2.wds
      have c35 : wr.drew.cell? ⟨g, 35, none⟩ = some _ := (show Blk wr.drew _ _ _ from k8).cell (manC_35 _ _ hh)
      have c35a := k8a.cell (manC_35 _ _ hh)
      have c352 := k82.cell (manC_35 _ _ hh)
      have f352 : w2.frozen? ⟨g, 35, none⟩ = false := k82.frozen 35
      have HF : Hid (∀ z, Blk (w2.setCell ⟨g, 35, none⟩ z) g 25 (manC m z)) := fun z => (k82.set 35 z).of_eq (man_set _ _ _ hh)
      have HO : Hid (∀ z, OwnW (w2.setCell ⟨g, 35, none⟩ z) W3.heap.size (.slice a2 (m.u.take k ++ [x]).length c2) (m.u.take (k + 1))) := fun z => by
        rw [HSF.out]
        exact ho2.grown (grown_setCellM w2 g 35 z) (by
          cases hb : (Value.slice a2 (m.u.take k ++ [x]).length c2).ownBlock with
          | none => exact .inl rfl
          | some k => exact .inr (fun e => by have := (ho2.blocks k hb).1; cases e; omega))
      clear hown ho2 k8 k8a k82 hne hne6 hg2 HSF hx hlk HRC
      generalize (m.u.take k ++ [x]).length = L2 at *
      generalize (m.u.take k).length = UL at *
      go_wp2_with fail
      have hU0 : Below W.heap.size W wr.drew := hBr.drew
      refine held_begin (fun V => Below W.heap.size W V) (by kernel_rfl) ?_
      refine held_take 0 38 _ (.pointer (some ⟨g, 35, none⟩)) rfl rfl (by kernel_rfl) (by kernel_rfl) (by kernel_rfl) rfl hU0 (fun _ _ => rfl) ?_
      simp only [Act.put, List.setIfInBounds_toArray, List.set_cons_succ, List.set_cons_zero]
      refine held_take 2 40 _ (.slice (some ⟨rb, ro, none⟩) 1 rc) rfl rfl (by kernel_rfl) (by kernel_rfl) (by kernel_rfl) rfl hU0 (fun _ _ => rfl) ?_
      simp only [Act.put, List.setIfInBounds_toArray, List.set_cons_succ, List.set_cons_zero]
      refine held_take 3 41 _ (.pointer (some ⟨rb, ro, none⟩)) rfl rfl (by kernel_rfl) (by kernel_rfl) (by kernel_rfl) rfl hU0 (fun V _ => exec_indexat 42 _ _ rfl (.slice (some ⟨rb, ro, none⟩) 1 rc) (.int .i64 0) _ rfl rfl (idxO rb ro rc V)) ?_
      simp only [Act.put, List.setIfInBounds_toArray, List.set_cons_succ, List.set_cons_zero]
      refine held_take 4 42 _ (.pointer (some ⟨rb, ro, none⟩)) rfl rfl (by kernel_rfl) (by kernel_rfl) (by kernel_rfl) rfl hU0 (fun _ _ => rfl) ?_
      simp only [Act.put, List.setIfInBounds_toArray, List.set_cons_succ, List.set_cons_zero]
      refine held_take 5 43 _ (.int .u64 (x.toNat : Int)) rfl rfl (by kernel_rfl) (by kernel_rfl) (by kernel_rfl) rfl hU0 (fun V hV => exec_loadc 60 _ rfl _ _ rfl (load_one 60 (fun _ => by kernel_rfl) V _ _ _ (qx V hV))) ?_
      simp only [Act.put, List.setIfInBounds_toArray, List.set_cons_succ, List.set_cons_zero]
      refine held_take 6 44 _ (v32 x) rfl rfl (by kernel_rfl) (by kernel_rfl) (by kernel_rfl) rfl hU0 (fun V _ => exec_conv 60 74 _ rfl (.int .u64 (x.toNat : Int)) (v32 x) rfl (conv_w32M x V)) ?_
      simp only [Act.put, List.setIfInBounds_toArray, List.set_cons_succ, List.set_cons_zero]
      refine held_all2 1 7 (by kernel_rfl) ?_ ?_
      · refine op_value 1 39 _ (.slice au UL cu) _ rfl rfl rfl (exec_loadc 23 _ rfl _ _ rfl (load_one 23 (fun _ => by kernel_rfl) _ _ _ _ c35)) ⟨hU0, ?_⟩
        simp only [Act.put, List.setIfInBounds_toArray, List.set_cons_succ, List.set_cons_zero]
        refine held_all1 7 (by kernel_rfl) (op_value 7 45 _ (.slice (some ⟨wr.heap.size, 0, none⟩) 1 1) _ rfl rfl rfl (exec_word _ rfl _ rfl) ⟨hU1, ?_⟩)
        simp only [Act.put, List.setIfInBounds_toArray, List.set_cons_succ, List.set_cons_zero]
        refine held_all1 8 (by kernel_rfl) (op_value 8 46 _ (.slice a2 L2 c2) w2 rfl rfl rfl (exec_app _ _ 23 23 rfl (.slice au UL cu) (.slice (some ⟨wr.heap.size, 0, none⟩) 1 1) (.slice a2 L2 c2) rfl rfl hr2) ⟨hB2, ?_⟩)
        simp only [Act.put, List.setIfInBounds_toArray, List.set_cons_succ, List.set_cons_zero]
        refine held_take 9 47 _ (.pointer (some ⟨g, 35, none⟩)) rfl rfl (by kernel_rfl) (by kernel_rfl) (by kernel_rfl) rfl hB2 (fun _ _ => rfl) ?_
        simp only [Act.put, List.setIfInBounds_toArray, List.set_cons_succ, List.set_cons_zero]
        refine held_all1 10 (by kernel_rfl) (op_skip 10 _ _ rfl rfl rfl (exec_storew _ _ rfl _ _ _ _ _ rfl rfl c352 f352) ⟨hB2.setCell (p := ⟨g, 35, none⟩) hgW _, ?_⟩)
        refine wpAnyH_done (by kernel_rfl) ?_ _
        refine NoPanic.normal ?_
        clear c35 c35a c352 f352 hr2
        go_wp2
        go_roundw
        case rel => exact ⟨k + 1, _, hlt, by go_num, HF.out _, HO.out _, hB2.setCell (p := ⟨g, 35, none⟩) hgW _, k62.setOther _ _ hgne, by simp; omega⟩
        case measure => simp [intOf]; omega
      · refine op_value 7 45 _ (.slice (some ⟨wr.heap.size, 0, none⟩) 1 1) _ rfl rfl rfl (exec_word _ rfl _ rfl) ⟨hU1, ?_⟩
        simp only [Act.put, List.setIfInBounds_toArray, List.set_cons_succ, List.set_cons_zero]
        refine held_all1 1 (by kernel_rfl) (op_value 1 39 _ (.slice au UL cu) _ rfl rfl rfl (exec_loadc 23 _ rfl _ _ rfl (load_one 23 (fun _ => by kernel_rfl) _ _ _ _ c35a)) ⟨hU1, ?_⟩)
        simp only [Act.put, List.setIfInBounds_toArray, List.set_cons_succ, List.set_cons_zero]
        refine held_all1 8 (by kernel_rfl) (op_value 8 46 _ (.slice a2 L2 c2) w2 rfl rfl rfl (exec_app _ _ 23 23 rfl (.slice au UL cu) (.slice (some ⟨wr.heap.size, 0, none⟩) 1 1) (.slice a2 L2 c2) rfl rfl hr2) ⟨hB2, ?_⟩)
        simp only [Act.put, List.setIfInBounds_toArray, List.set_cons_succ, List.set_cons_zero]
        refine held_take 9 47 _ (.pointer (some ⟨g, 35, none⟩)) rfl rfl (by kernel_rfl) (by kernel_rfl) (by kernel_rfl) rfl hB2 (fun _ _ => rfl) ?_
        simp only [Act.put, List.setIfInBounds_toArray, List.set_cons_succ, List.set_cons_zero]
        refine held_all1 10 (by kernel_rfl) (op_skip 10 _ _ rfl rfl rfl (exec_storew _ _ rfl _ _ _ _ _ rfl rfl c352 f352) ⟨hB2.setCell (p := ⟨g, 35, none⟩) hgW _, ?_⟩)
        refine wpAnyH_done (by kernel_rfl) ?_ _
        refine NoPanic.normal ?_
        clear c35 c35a c352 f352 hr2
        go_wp2
        go_roundw
        case rel => exact ⟨k + 1, _, hlt, by go_num, HF.out _, HO.out _, hB2.setCell (p := ⟨g, 35, none⟩) hgW _, k62.setOther _ _ hgne, by simp; omega⟩
        case measure => simp [intOf]; omega
    · obtain rfl : k = m.u.length := by omega
      have i1 : ¬ (m.u.length : Int) < (m.u.length : Int) := by omega
      rw [List.take_of_length_le (Nat.le_refl _)] at hown
      have hi8 := manC_info m su hh
      have ho8 := manC_one m su hown.wds.one
      have HSZ : Hid (Z.size = (manC m su).size) := by show _ = _; rw [HZ.out]; exact size_zeroMan _ _ hh
      have HMR : Hid (manV m su = .agg (manC m su)) := rfl
      have hWg := hBr.size
      have hs3W : W.heap.size < W3.heap.size := by omega
      generalize manC m su = MR at *
      go_wp2_with (first | (refine wpList_load_row rfl 25 _ rfl g rfl 25 MR (0, 0) _ k8 Try.underlying25 rfl hi8 ?_) | (refine store_blk rfl 25 _ _ rfl rfl W.heap.size MR rfl rfl 25 Z k6 hi8 HSZ.out ho8 ?_; intro W5 k5 hg5 hs5))
      have hB5 : Below W.heap.size W W5 := below_grown hBr hg5 hBr.size (fun q hq => by cases hq; omega)
      have ho5 : OwnW W5 W3.heap.size su m.u := hown.grown hg5 (by
        cases hb : su.ownBlock with
        | none => exact .inl rfl
        | some q => exact .inr (fun e => by have := (hown.blocks q hb).1; cases e; omega))
      exact bodyPost_ret (results_oneM rfl _ _ W.heap.size 25 MR (0, 0) _ rfl k5 Try.underlying25 rfl hi8) rfl ⟨su, congrArg Ending.returned HMR.out.symm, ownW_mono ho5 (Nat.le_of_lt hs3W), hB5⟩
theorem mdec_any (bv : Value) (s : List UInt8) (w : World) (hS : Seg w bv s) (hl : s.length ≤ maxLen) :
    Calls Try.prog 48 #[bv] w fun e w' => ∃ M su er, e = .returned (.tuple #[manV M su, .int .i64 er]) ∧ decIs w' s M su er ∧ Below w.heap.size w w' :=
  mdec_of mof_any bv s w hS hl
end Go.Proofs.Ytgfcindkfnjeoaa
