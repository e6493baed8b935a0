/-
  What is proved here: of all ops, the statement StoreOwn answers true.
  Conditions: none.
-/
import Derived.Test.YtfghfciigdkioaaGreatRJStoreMine
namespace Go.Proofs.YtfghfciigdkioaaGreatR
open Go.RowKit Go.Maps

set_option maxRecDepth 100000 in
set_option maxHeartbeats 8000000 in
theorem storeOwn_any (o : OpB) (ka va : Option Addr) (kc vc : Nat) (w : World) (hks : Seg w (.slice ka o.key.length kc) o.key) (hvs : Seg w (.slice va o.val.length vc) o.val) (hkm : o.key.length ≤ maxLen) (hvm : o.val.length ≤ maxLen) :
    Calls Tryz.prog 7 #[.agg #[.slice ka o.key.length kc, .bool o.del, .slice va o.val.length vc]] w fun e w' => e = .returned (.bool true) ∧ Below w.heap.size w w' := by
  unfold maxLen at hkm hvm
  obtain ⟨x, hx, hxm, hxs, HOP⟩ := open_new 100 (by rw [newS_size]; decide) (by decide)
  rw [newS_size] at hxs
  have HOP : Hid (∀ (w : World) (L : PLay) (C : Nat → Prop), OD w L C (newS 100) → Calls Tryz.prog 11 #[.pointer (some ⟨L.g, 0, none⟩)] w fun e w' => Opened w L C x e w') := HOP
  go_enter Tryz.func7, Tryz.ntmps7
  go_wp2_with fail
  have hb0 := (Below.refl w.heap.size w).alloc (Nat.le_refl _) (.cells #[.slice ka o.key.length kc, .bool o.del, .slice va o.val.length vc] 59)
  have hk0 := Blk.new w 59 #[.slice ka o.key.length kc, .bool o.del, .slice va o.val.length vc]
  obtain ⟨w0, hw0⟩ : ∃ W, W = w.alloc (.cells #[.slice ka o.key.length kc, .bool o.del, .slice va o.val.length vc] 59) := ⟨_, rfl⟩
  rw [← hw0] at hb0 hk0 ⊢
  clear hw0
  have hl0 := hk0.lt
  have HC : Hid (∀ W : World, Below w0.heap.size w0 W → W.cell? ⟨w.heap.size, 0, none⟩ = some (.slice ka o.key.length kc) ∧ W.cell? ⟨w.heap.size, 2, none⟩ = some (.slice va o.val.length vc) ∧ Seg W (.slice ka o.key.length kc) o.key ∧ Seg W (.slice va o.val.length vc) o.val) := fun W hW =>
    ⟨(hk0.below hW hl0).cell (j := 0) rfl, (hk0.below hW hl0).cell (j := 2) rfl, (hks.below hb0 (Nat.le_refl _)).below hW (Nat.le_refl _), (hvs.below hb0 (Nat.le_refl _)).below hW (Nat.le_refl _)⟩
  have HB : Hid (∀ W, Below w0.heap.size w0 W → Below w.heap.size w W) := fun W hW => hb0.trans (hW.mono hb0.size)
  clear hk0 hb0 hks hvs
  refine (awake8_any w0).mono ?_
  rintro e w1 ⟨rfl, hB1⟩
  go_wp2_with fail
  refine (od_new 100 w1 (by decide) (by decide)).mono ?_
  rintro e w2 ⟨L, rfl, hD, hb2, hT, -⟩
  have hB2 := blift hB1 hb2 hB1.size
  obtain ⟨c0, c2, -, -⟩ := HC.out w2 hB2
  by_cases h1 : 1000 < o.key.length
  · have j1 : (1000 : Int) < (o.key.length : Int) := by omega
    go_wp2_with fail
    go_ret
    exact ⟨rfl, HB.out _ hB2⟩
  have j1 : ¬ (1000 : Int) < (o.key.length : Int) := by omega
  by_cases h2 : 5000 < o.val.length
  · have j2 : (5000 : Int) < (o.val.length : Int) := by omega
    go_wp2_with fail
    go_ret
    exact ⟨rfl, HB.out _ hB2⟩
  have j2 : ¬ (5000 : Int) < (o.val.length : Int) := by omega
  go_wp2_with fail
  refine (HOP.out w2 L L.T hD).mono ?_
  rintro e w3 ⟨SG, rfl, hS3, hSG, hc3⟩
  have hT0 : ∀ q, L.T q → w0.heap.size ≤ q := fun q hq => Nat.le_trans hB1.size (hT q hq)
  have hge : ∀ q, Fr L.T w2 w3 q → w0.heap.size ≤ q := fr_from hT0 hB2.size
  have hB3 : Below w0.heap.size w0 w3 := hB2.trans (hc3.below hT0 hB2.size)
  have hB3s := hB3.size
  clear HOP hD hb2 hc3 hT hT0 c0 c2 hB1 hB2
  obtain ⟨C, hCC⟩ : ∃ C, C = Fr L.T w2 w3 := ⟨_, rfl⟩
  rw [← hCC] at hS3 hge
  clear hCC
  go_wp2_with fail
  have hS0 : Below w0.heap.size w0 w3.drew := hB3.drew
  have hI0 := Inv8.startD w3
  have HS : Hid (∀ W, Below w3.heap.size w3 W → Below w0.heap.size w0 W) := fun W hW => blift hB3 hW hB3.size
  obtain ⟨-, -, hkx, hvx⟩ := HC.out w3 hB3
  have hkl : o.key.length ≤ 1000000 := by omega
  have hvl : o.val.length ≤ 1000000 := by omega
  refine Code.wp_mono (Q := fun e a' W' => e = .normal ∧ ∃ x1 x2 a1 c1 a2 c2 m, a' = { tmps := #[.agg #[.slice ka o.key.length kc, .bool o.del, .slice va o.val.length vc], .pointer (some ⟨w.heap.size, 0, none⟩), .bool false, .bool true, .pointer (some ⟨L.g, 0, none⟩), .int .i64 0, .pointer (some ⟨SG, 0, none⟩), .int .i64 0, .pointer (some ⟨m, 0, none⟩), undef, undef, undef, undef, undef, undef, undef, .bool true, .tuple #[.pointer (some ⟨L.g, 0, none⟩), .int .i64 0], .tuple #[.pointer (some ⟨L.g, 0, none⟩), .int .i64 0], .pointer (some ⟨L.g, 0, none⟩), .int .i64 0, .bool true, .bool false, .bool false, .int .i64 0, .bool false, .bool false, .bool false, .pointer (some ⟨L.g, 0, none⟩), .bool false, .bool false, .bool false, .pointer (some ⟨w.heap.size, 0, none⟩), .slice ka o.key.length kc, .int .i64 (o.key.length : Int), .bool (decide ((1000 : Int) < (o.key.length : Int))), .bool (decide ((1000 : Int) < (o.key.length : Int))), .bool (decide ((1000 : Int) < (o.key.length : Int))), .pointer (some ⟨w.heap.size, 2, none⟩), .slice va o.val.length vc, .int .i64 (o.val.length : Int), .bool (decide ((5000 : Int) < (o.val.length : Int))), .bool (decide ((1000 : Int) < (o.key.length : Int)) || decide ((5000 : Int) < (o.val.length : Int))), undef, undef, undef, undef, undef, .tuple #[.pointer (some ⟨SG, 0, none⟩), .int .i64 0], .pointer (some ⟨L.g, 0, none⟩), .tuple #[.pointer (some ⟨SG, 0, none⟩), .int .i64 0], .pointer (some ⟨SG, 0, none⟩), .int .i64 0, .int .i64 0, .bool false, .bool false, .pointer (some ⟨SG, 0, none⟩), .bool false, .bool false, x1, .pointer (some ⟨w.heap.size, 0, none⟩), .slice ka o.key.length kc, .slice a1 o.key.length c1, x2, .pointer (some ⟨w.heap.size, 2, none⟩), .slice va o.val.length vc, .slice a2 o.val.length c2, .agg #[.slice a1 o.key.length c1, .bool false, .slice a2 o.val.length c2], undef, undef, undef, undef, undef, undef, undef, undef, undef, undef, undef, undef, undef, undef, undef, undef, undef, undef, undef, undef, undef, undef, undef, undef, undef, undef, undef, undef, undef, undef, undef, undef, undef, undef, undef, undef, undef, undef, undef, undef, undef, undef, undef, undef, undef, undef, undef, undef, undef, undef, undef, undef, undef, undef, undef, undef, undef, undef, undef, undef, undef, undef, undef, undef, undef, undef, undef, undef, undef, undef], defers := [] } ∧ Mine8 w3 W' (.slice a1 o.key.length c1) (.slice a2 o.val.length c2) o.key o.val m) ?_ ?_
  rotate_left
  · refine held_begin (fun V => Below w0.heap.size w0 V) (by kernel_rfl) ?_
    refine held_take 1 60 _ (.pointer (some ⟨w.heap.size, 0, none⟩)) rfl rfl (by kernel_rfl) (by kernel_rfl) (by kernel_rfl) rfl hS0 (fun _ _ => rfl) ?_
    simp only [Act.put, List.setIfInBounds_toArray, List.set_cons_succ, List.set_cons_zero]
    refine held_take 2 61 _ (.slice ka o.key.length kc) rfl rfl (by kernel_rfl) (by kernel_rfl) (by kernel_rfl) rfl hS0 (fun V hV => exec_loadc 34 _ rfl _ _ rfl (load_one 34 (fun _ => rfl) V w.heap.size 0 _ ((HC.out V hV).1))) ?_
    simp only [Act.put, List.setIfInBounds_toArray, List.set_cons_succ, List.set_cons_zero]
    refine held_take 5 64 _ (.pointer (some ⟨w.heap.size, 2, none⟩)) rfl rfl (by kernel_rfl) (by kernel_rfl) (by kernel_rfl) rfl hS0 (fun _ _ => rfl) ?_
    simp only [Act.put, List.setIfInBounds_toArray, List.set_cons_succ, List.set_cons_zero]
    refine held_take 6 65 _ (.slice va o.val.length vc) rfl rfl (by kernel_rfl) (by kernel_rfl) (by kernel_rfl) rfl hS0 (fun V hV => exec_loadc 34 _ rfl _ _ rfl (load_one 34 (fun _ => rfl) V w.heap.size 2 _ ((HC.out V hV).2.1))) ?_
    simp only [Act.put, List.setIfInBounds_toArray, List.set_cons_succ, List.set_cons_zero]
    refine held_all3 0 4 9 (by kernel_rfl) ?_ ?_ ?_
    · have h1 := (hI0).e1
      refine op_value 0 59 _ _ _ rfl rfl rfl (exec_empty rfl) ⟨HS.out _ h1.b, ?_⟩
      simp only [Act.put, List.setIfInBounds_toArray, List.set_cons_succ, List.set_cons_zero]
      refine held_all3 3 4 9 (by kernel_rfl) ?_ ?_ ?_
      · obtain ⟨u2, W2, hr2, h2⟩ := (h1).a1 hkx hkl
        obtain ⟨a1, c1, rfl⟩ := Seg.shapeD (h2.o1 _ _ rfl).seg
        refine op_value 3 62 _ _ _ rfl rfl rfl (exec_app (.tmp 59) (.tmp 61) 34 34 rfl (.slice (some ⟨(w3.drew).heap.size, 0, none⟩) 0 0) (.slice ka o.key.length kc) _ rfl rfl hr2) ⟨HS.out _ h2.b, ?_⟩
        simp only [Act.put, List.setIfInBounds_toArray, List.set_cons_succ, List.set_cons_zero]
        refine held_all2 4 9 (by kernel_rfl) ?_ ?_
        · have h3 := (h2).e2
          refine op_value 4 63 _ _ _ rfl rfl rfl (exec_empty rfl) ⟨HS.out _ h3.b, ?_⟩
          simp only [Act.put, List.setIfInBounds_toArray, List.set_cons_succ, List.set_cons_zero]
          refine held_all2 7 9 (by kernel_rfl) ?_ ?_
          · obtain ⟨u4, W4, hr4, h4⟩ := (h3).a2 hvx hvl
            obtain ⟨a2, c2, rfl⟩ := Seg.shapeD (h4.o2 _ _ rfl).seg
            refine op_value 7 66 _ _ _ rfl rfl rfl (exec_app (.tmp 63) (.tmp 65) 34 34 rfl (.slice (some ⟨(W2).heap.size, 0, none⟩) 0 0) (.slice va o.val.length vc) _ rfl rfl hr4) ⟨HS.out _ h4.b, ?_⟩
            simp only [Act.put, List.setIfInBounds_toArray, List.set_cons_succ, List.set_cons_zero]
            refine held_take 8 67 _ (.agg #[.slice a1 o.key.length c1, .bool false, .slice a2 o.val.length c2]) rfl rfl (by kernel_rfl) (by kernel_rfl) (by kernel_rfl) rfl (HS.out _ (h4).b) (fun _ _ => exec_buildOp _ _ rfl _ _ _ _ _ _ rfl rfl) ?_
            simp only [Act.put, List.setIfInBounds_toArray, List.set_cons_succ, List.set_cons_zero]
            refine held_all1 9 (by kernel_rfl) ?_
            · have h5 := (h4).m
              refine op_value 9 8 _ _ _ rfl rfl rfl (exec_allocOp rfl) ⟨HS.out _ h5.b, ?_⟩
              simp only [Act.put, List.setIfInBounds_toArray, List.set_cons_succ, List.set_cons_zero]
              refine held_all1 10 (by kernel_rfl) (op_row 10 _ rfl rfl rfl 59 _ _ rfl _ _ rfl rfl 59 zeroOp ((h5).rk _ rfl).1 info_op rfl (op_cells ..) ?_)
              intro WF hkF hgF _
              have hF := (h5).fin hkF hgF
              refine ⟨HS.out _ hF.1, ?_⟩
              refine wpAnyH_done (by kernel_rfl) ?_ _
              refine NoPanic.normal ?_
              exact ⟨rfl, _, _, _, _, _, _, _, rfl, hF⟩
          · have h6 := (h3).m
            refine op_value 9 8 _ _ _ rfl rfl rfl (exec_allocOp rfl) ⟨HS.out _ h6.b, ?_⟩
            simp only [Act.put, List.setIfInBounds_toArray, List.set_cons_succ, List.set_cons_zero]
            refine held_all1 7 (by kernel_rfl) ?_
            · obtain ⟨u7, W7, hr7, h7⟩ := (h6).a2 hvx hvl
              obtain ⟨a2, c2, rfl⟩ := Seg.shapeD (h7.o2 _ _ rfl).seg
              refine op_value 7 66 _ _ _ rfl rfl rfl (exec_app (.tmp 63) (.tmp 65) 34 34 rfl (.slice (some ⟨(W2).heap.size, 0, none⟩) 0 0) (.slice va o.val.length vc) _ rfl rfl hr7) ⟨HS.out _ h7.b, ?_⟩
              simp only [Act.put, List.setIfInBounds_toArray, List.set_cons_succ, List.set_cons_zero]
              refine held_take 8 67 _ (.agg #[.slice a1 o.key.length c1, .bool false, .slice a2 o.val.length c2]) rfl rfl (by kernel_rfl) (by kernel_rfl) (by kernel_rfl) rfl (HS.out _ (h7).b) (fun _ _ => exec_buildOp _ _ rfl _ _ _ _ _ _ rfl rfl) ?_
              simp only [Act.put, List.setIfInBounds_toArray, List.set_cons_succ, List.set_cons_zero]
              refine held_all1 10 (by kernel_rfl) (op_row 10 _ rfl rfl rfl 59 _ _ rfl _ _ rfl rfl 59 zeroOp ((h7).rk _ rfl).1 info_op rfl (op_cells ..) ?_)
              intro WF hkF hgF _
              have hF := (h7).fin hkF hgF
              refine ⟨HS.out _ hF.1, ?_⟩
              refine wpAnyH_done (by kernel_rfl) ?_ _
              refine NoPanic.normal ?_
              exact ⟨rfl, _, _, _, _, _, _, _, rfl, hF⟩
        · have h8 := (h2).m
          refine op_value 9 8 _ _ _ rfl rfl rfl (exec_allocOp rfl) ⟨HS.out _ h8.b, ?_⟩
          simp only [Act.put, List.setIfInBounds_toArray, List.set_cons_succ, List.set_cons_zero]
          refine held_all1 4 (by kernel_rfl) ?_
          · have h9 := (h8).e2
            refine op_value 4 63 _ _ _ rfl rfl rfl (exec_empty rfl) ⟨HS.out _ h9.b, ?_⟩
            simp only [Act.put, List.setIfInBounds_toArray, List.set_cons_succ, List.set_cons_zero]
            refine held_all1 7 (by kernel_rfl) ?_
            · obtain ⟨u10, W10, hr10, h10⟩ := (h9).a2 hvx hvl
              obtain ⟨a2, c2, rfl⟩ := Seg.shapeD (h10.o2 _ _ rfl).seg
              refine op_value 7 66 _ _ _ rfl rfl rfl (exec_app (.tmp 63) (.tmp 65) 34 34 rfl (.slice (some ⟨((W2).alloc (.cells zeroOp 59)).heap.size, 0, none⟩) 0 0) (.slice va o.val.length vc) _ rfl rfl hr10) ⟨HS.out _ h10.b, ?_⟩
              simp only [Act.put, List.setIfInBounds_toArray, List.set_cons_succ, List.set_cons_zero]
              refine held_take 8 67 _ (.agg #[.slice a1 o.key.length c1, .bool false, .slice a2 o.val.length c2]) rfl rfl (by kernel_rfl) (by kernel_rfl) (by kernel_rfl) rfl (HS.out _ (h10).b) (fun _ _ => exec_buildOp _ _ rfl _ _ _ _ _ _ rfl rfl) ?_
              simp only [Act.put, List.setIfInBounds_toArray, List.set_cons_succ, List.set_cons_zero]
              refine held_all1 10 (by kernel_rfl) (op_row 10 _ rfl rfl rfl 59 _ _ rfl _ _ rfl rfl 59 zeroOp ((h10).rk _ rfl).1 info_op rfl (op_cells ..) ?_)
              intro WF hkF hgF _
              have hF := (h10).fin hkF hgF
              refine ⟨HS.out _ hF.1, ?_⟩
              refine wpAnyH_done (by kernel_rfl) ?_ _
              refine NoPanic.normal ?_
              exact ⟨rfl, _, _, _, _, _, _, _, rfl, hF⟩
      · have h11 := (h1).e2
        refine op_value 4 63 _ _ _ rfl rfl rfl (exec_empty rfl) ⟨HS.out _ h11.b, ?_⟩
        simp only [Act.put, List.setIfInBounds_toArray, List.set_cons_succ, List.set_cons_zero]
        refine held_all2 3 9 (by kernel_rfl) ?_ ?_
        · obtain ⟨u12, W12, hr12, h12⟩ := (h11).a1 hkx hkl
          obtain ⟨a1, c1, rfl⟩ := Seg.shapeD (h12.o1 _ _ rfl).seg
          refine op_value 3 62 _ _ _ rfl rfl rfl (exec_app (.tmp 59) (.tmp 61) 34 34 rfl (.slice (some ⟨(w3.drew).heap.size, 0, none⟩) 0 0) (.slice ka o.key.length kc) _ rfl rfl hr12) ⟨HS.out _ h12.b, ?_⟩
          simp only [Act.put, List.setIfInBounds_toArray, List.set_cons_succ, List.set_cons_zero]
          refine held_all2 7 9 (by kernel_rfl) ?_ ?_
          · obtain ⟨u13, W13, hr13, h13⟩ := (h12).a2 hvx hvl
            obtain ⟨a2, c2, rfl⟩ := Seg.shapeD (h13.o2 _ _ rfl).seg
            refine op_value 7 66 _ _ _ rfl rfl rfl (exec_app (.tmp 63) (.tmp 65) 34 34 rfl (.slice (some ⟨((w3.drew).alloc (.cells #[] 5)).heap.size, 0, none⟩) 0 0) (.slice va o.val.length vc) _ rfl rfl hr13) ⟨HS.out _ h13.b, ?_⟩
            simp only [Act.put, List.setIfInBounds_toArray, List.set_cons_succ, List.set_cons_zero]
            refine held_take 8 67 _ (.agg #[.slice a1 o.key.length c1, .bool false, .slice a2 o.val.length c2]) rfl rfl (by kernel_rfl) (by kernel_rfl) (by kernel_rfl) rfl (HS.out _ (h13).b) (fun _ _ => exec_buildOp _ _ rfl _ _ _ _ _ _ rfl rfl) ?_
            simp only [Act.put, List.setIfInBounds_toArray, List.set_cons_succ, List.set_cons_zero]
            refine held_all1 9 (by kernel_rfl) ?_
            · have h14 := (h13).m
              refine op_value 9 8 _ _ _ rfl rfl rfl (exec_allocOp rfl) ⟨HS.out _ h14.b, ?_⟩
              simp only [Act.put, List.setIfInBounds_toArray, List.set_cons_succ, List.set_cons_zero]
              refine held_all1 10 (by kernel_rfl) (op_row 10 _ rfl rfl rfl 59 _ _ rfl _ _ rfl rfl 59 zeroOp ((h14).rk _ rfl).1 info_op rfl (op_cells ..) ?_)
              intro WF hkF hgF _
              have hF := (h14).fin hkF hgF
              refine ⟨HS.out _ hF.1, ?_⟩
              refine wpAnyH_done (by kernel_rfl) ?_ _
              refine NoPanic.normal ?_
              exact ⟨rfl, _, _, _, _, _, _, _, rfl, hF⟩
          · have h15 := (h12).m
            refine op_value 9 8 _ _ _ rfl rfl rfl (exec_allocOp rfl) ⟨HS.out _ h15.b, ?_⟩
            simp only [Act.put, List.setIfInBounds_toArray, List.set_cons_succ, List.set_cons_zero]
            refine held_all1 7 (by kernel_rfl) ?_
            · obtain ⟨u16, W16, hr16, h16⟩ := (h15).a2 hvx hvl
              obtain ⟨a2, c2, rfl⟩ := Seg.shapeD (h16.o2 _ _ rfl).seg
              refine op_value 7 66 _ _ _ rfl rfl rfl (exec_app (.tmp 63) (.tmp 65) 34 34 rfl (.slice (some ⟨((w3.drew).alloc (.cells #[] 5)).heap.size, 0, none⟩) 0 0) (.slice va o.val.length vc) _ rfl rfl hr16) ⟨HS.out _ h16.b, ?_⟩
              simp only [Act.put, List.setIfInBounds_toArray, List.set_cons_succ, List.set_cons_zero]
              refine held_take 8 67 _ (.agg #[.slice a1 o.key.length c1, .bool false, .slice a2 o.val.length c2]) rfl rfl (by kernel_rfl) (by kernel_rfl) (by kernel_rfl) rfl (HS.out _ (h16).b) (fun _ _ => exec_buildOp _ _ rfl _ _ _ _ _ _ rfl rfl) ?_
              simp only [Act.put, List.setIfInBounds_toArray, List.set_cons_succ, List.set_cons_zero]
              refine held_all1 10 (by kernel_rfl) (op_row 10 _ rfl rfl rfl 59 _ _ rfl _ _ rfl rfl 59 zeroOp ((h16).rk _ rfl).1 info_op rfl (op_cells ..) ?_)
              intro WF hkF hgF _
              have hF := (h16).fin hkF hgF
              refine ⟨HS.out _ hF.1, ?_⟩
              refine wpAnyH_done (by kernel_rfl) ?_ _
              refine NoPanic.normal ?_
              exact ⟨rfl, _, _, _, _, _, _, _, rfl, hF⟩
        · have h17 := (h11).m
          refine op_value 9 8 _ _ _ rfl rfl rfl (exec_allocOp rfl) ⟨HS.out _ h17.b, ?_⟩
          simp only [Act.put, List.setIfInBounds_toArray, List.set_cons_succ, List.set_cons_zero]
          refine held_all1 3 (by kernel_rfl) ?_
          · obtain ⟨u18, W18, hr18, h18⟩ := (h17).a1 hkx hkl
            obtain ⟨a1, c1, rfl⟩ := Seg.shapeD (h18.o1 _ _ rfl).seg
            refine op_value 3 62 _ _ _ rfl rfl rfl (exec_app (.tmp 59) (.tmp 61) 34 34 rfl (.slice (some ⟨(w3.drew).heap.size, 0, none⟩) 0 0) (.slice ka o.key.length kc) _ rfl rfl hr18) ⟨HS.out _ h18.b, ?_⟩
            simp only [Act.put, List.setIfInBounds_toArray, List.set_cons_succ, List.set_cons_zero]
            refine held_all1 7 (by kernel_rfl) ?_
            · obtain ⟨u19, W19, hr19, h19⟩ := (h18).a2 hvx hvl
              obtain ⟨a2, c2, rfl⟩ := Seg.shapeD (h19.o2 _ _ rfl).seg
              refine op_value 7 66 _ _ _ rfl rfl rfl (exec_app (.tmp 63) (.tmp 65) 34 34 rfl (.slice (some ⟨((w3.drew).alloc (.cells #[] 5)).heap.size, 0, none⟩) 0 0) (.slice va o.val.length vc) _ rfl rfl hr19) ⟨HS.out _ h19.b, ?_⟩
              simp only [Act.put, List.setIfInBounds_toArray, List.set_cons_succ, List.set_cons_zero]
              refine held_take 8 67 _ (.agg #[.slice a1 o.key.length c1, .bool false, .slice a2 o.val.length c2]) rfl rfl (by kernel_rfl) (by kernel_rfl) (by kernel_rfl) rfl (HS.out _ (h19).b) (fun _ _ => exec_buildOp _ _ rfl _ _ _ _ _ _ rfl rfl) ?_
              simp only [Act.put, List.setIfInBounds_toArray, List.set_cons_succ, List.set_cons_zero]
              refine held_all1 10 (by kernel_rfl) (op_row 10 _ rfl rfl rfl 59 _ _ rfl _ _ rfl rfl 59 zeroOp ((h19).rk _ rfl).1 info_op rfl (op_cells ..) ?_)
              intro WF hkF hgF _
              have hF := (h19).fin hkF hgF
              refine ⟨HS.out _ hF.1, ?_⟩
              refine wpAnyH_done (by kernel_rfl) ?_ _
              refine NoPanic.normal ?_
              exact ⟨rfl, _, _, _, _, _, _, _, rfl, hF⟩
      · have h20 := (h1).m
        refine op_value 9 8 _ _ _ rfl rfl rfl (exec_allocOp rfl) ⟨HS.out _ h20.b, ?_⟩
        simp only [Act.put, List.setIfInBounds_toArray, List.set_cons_succ, List.set_cons_zero]
        refine held_all2 3 4 (by kernel_rfl) ?_ ?_
        · obtain ⟨u21, W21, hr21, h21⟩ := (h20).a1 hkx hkl
          obtain ⟨a1, c1, rfl⟩ := Seg.shapeD (h21.o1 _ _ rfl).seg
          refine op_value 3 62 _ _ _ rfl rfl rfl (exec_app (.tmp 59) (.tmp 61) 34 34 rfl (.slice (some ⟨(w3.drew).heap.size, 0, none⟩) 0 0) (.slice ka o.key.length kc) _ rfl rfl hr21) ⟨HS.out _ h21.b, ?_⟩
          simp only [Act.put, List.setIfInBounds_toArray, List.set_cons_succ, List.set_cons_zero]
          refine held_all1 4 (by kernel_rfl) ?_
          · have h22 := (h21).e2
            refine op_value 4 63 _ _ _ rfl rfl rfl (exec_empty rfl) ⟨HS.out _ h22.b, ?_⟩
            simp only [Act.put, List.setIfInBounds_toArray, List.set_cons_succ, List.set_cons_zero]
            refine held_all1 7 (by kernel_rfl) ?_
            · obtain ⟨u23, W23, hr23, h23⟩ := (h22).a2 hvx hvl
              obtain ⟨a2, c2, rfl⟩ := Seg.shapeD (h23.o2 _ _ rfl).seg
              refine op_value 7 66 _ _ _ rfl rfl rfl (exec_app (.tmp 63) (.tmp 65) 34 34 rfl (.slice (some ⟨(W21).heap.size, 0, none⟩) 0 0) (.slice va o.val.length vc) _ rfl rfl hr23) ⟨HS.out _ h23.b, ?_⟩
              simp only [Act.put, List.setIfInBounds_toArray, List.set_cons_succ, List.set_cons_zero]
              refine held_take 8 67 _ (.agg #[.slice a1 o.key.length c1, .bool false, .slice a2 o.val.length c2]) rfl rfl (by kernel_rfl) (by kernel_rfl) (by kernel_rfl) rfl (HS.out _ (h23).b) (fun _ _ => exec_buildOp _ _ rfl _ _ _ _ _ _ rfl rfl) ?_
              simp only [Act.put, List.setIfInBounds_toArray, List.set_cons_succ, List.set_cons_zero]
              refine held_all1 10 (by kernel_rfl) (op_row 10 _ rfl rfl rfl 59 _ _ rfl _ _ rfl rfl 59 zeroOp ((h23).rk _ rfl).1 info_op rfl (op_cells ..) ?_)
              intro WF hkF hgF _
              have hF := (h23).fin hkF hgF
              refine ⟨HS.out _ hF.1, ?_⟩
              refine wpAnyH_done (by kernel_rfl) ?_ _
              refine NoPanic.normal ?_
              exact ⟨rfl, _, _, _, _, _, _, _, rfl, hF⟩
        · have h24 := (h20).e2
          refine op_value 4 63 _ _ _ rfl rfl rfl (exec_empty rfl) ⟨HS.out _ h24.b, ?_⟩
          simp only [Act.put, List.setIfInBounds_toArray, List.set_cons_succ, List.set_cons_zero]
          refine held_all1 3 (by kernel_rfl) ?_
          · obtain ⟨u25, W25, hr25, h25⟩ := (h24).a1 hkx hkl
            obtain ⟨a1, c1, rfl⟩ := Seg.shapeD (h25.o1 _ _ rfl).seg
            refine op_value 3 62 _ _ _ rfl rfl rfl (exec_app (.tmp 59) (.tmp 61) 34 34 rfl (.slice (some ⟨(w3.drew).heap.size, 0, none⟩) 0 0) (.slice ka o.key.length kc) _ rfl rfl hr25) ⟨HS.out _ h25.b, ?_⟩
            simp only [Act.put, List.setIfInBounds_toArray, List.set_cons_succ, List.set_cons_zero]
            refine held_all1 7 (by kernel_rfl) ?_
            · obtain ⟨u26, W26, hr26, h26⟩ := (h25).a2 hvx hvl
              obtain ⟨a2, c2, rfl⟩ := Seg.shapeD (h26.o2 _ _ rfl).seg
              refine op_value 7 66 _ _ _ rfl rfl rfl (exec_app (.tmp 63) (.tmp 65) 34 34 rfl (.slice (some ⟨(((w3.drew).alloc (.cells #[] 5)).alloc (.cells zeroOp 59)).heap.size, 0, none⟩) 0 0) (.slice va o.val.length vc) _ rfl rfl hr26) ⟨HS.out _ h26.b, ?_⟩
              simp only [Act.put, List.setIfInBounds_toArray, List.set_cons_succ, List.set_cons_zero]
              refine held_take 8 67 _ (.agg #[.slice a1 o.key.length c1, .bool false, .slice a2 o.val.length c2]) rfl rfl (by kernel_rfl) (by kernel_rfl) (by kernel_rfl) rfl (HS.out _ (h26).b) (fun _ _ => exec_buildOp _ _ rfl _ _ _ _ _ _ rfl rfl) ?_
              simp only [Act.put, List.setIfInBounds_toArray, List.set_cons_succ, List.set_cons_zero]
              refine held_all1 10 (by kernel_rfl) (op_row 10 _ rfl rfl rfl 59 _ _ rfl _ _ rfl rfl 59 zeroOp ((h26).rk _ rfl).1 info_op rfl (op_cells ..) ?_)
              intro WF hkF hgF _
              have hF := (h26).fin hkF hgF
              refine ⟨HS.out _ hF.1, ?_⟩
              refine wpAnyH_done (by kernel_rfl) ?_ _
              refine NoPanic.normal ?_
              exact ⟨rfl, _, _, _, _, _, _, _, rfl, hF⟩
    · have h27 := (hI0).e2
      refine op_value 4 63 _ _ _ rfl rfl rfl (exec_empty rfl) ⟨HS.out _ h27.b, ?_⟩
      simp only [Act.put, List.setIfInBounds_toArray, List.set_cons_succ, List.set_cons_zero]
      refine held_all2 0 9 (by kernel_rfl) ?_ ?_
      · have h28 := (h27).e1
        refine op_value 0 59 _ _ _ rfl rfl rfl (exec_empty rfl) ⟨HS.out _ h28.b, ?_⟩
        simp only [Act.put, List.setIfInBounds_toArray, List.set_cons_succ, List.set_cons_zero]
        refine held_all2 3 9 (by kernel_rfl) ?_ ?_
        · obtain ⟨u29, W29, hr29, h29⟩ := (h28).a1 hkx hkl
          obtain ⟨a1, c1, rfl⟩ := Seg.shapeD (h29.o1 _ _ rfl).seg
          refine op_value 3 62 _ _ _ rfl rfl rfl (exec_app (.tmp 59) (.tmp 61) 34 34 rfl (.slice (some ⟨((w3.drew).alloc (.cells #[] 5)).heap.size, 0, none⟩) 0 0) (.slice ka o.key.length kc) _ rfl rfl hr29) ⟨HS.out _ h29.b, ?_⟩
          simp only [Act.put, List.setIfInBounds_toArray, List.set_cons_succ, List.set_cons_zero]
          refine held_all2 7 9 (by kernel_rfl) ?_ ?_
          · obtain ⟨u30, W30, hr30, h30⟩ := (h29).a2 hvx hvl
            obtain ⟨a2, c2, rfl⟩ := Seg.shapeD (h30.o2 _ _ rfl).seg
            refine op_value 7 66 _ _ _ rfl rfl rfl (exec_app (.tmp 63) (.tmp 65) 34 34 rfl (.slice (some ⟨(w3.drew).heap.size, 0, none⟩) 0 0) (.slice va o.val.length vc) _ rfl rfl hr30) ⟨HS.out _ h30.b, ?_⟩
            simp only [Act.put, List.setIfInBounds_toArray, List.set_cons_succ, List.set_cons_zero]
            refine held_take 8 67 _ (.agg #[.slice a1 o.key.length c1, .bool false, .slice a2 o.val.length c2]) rfl rfl (by kernel_rfl) (by kernel_rfl) (by kernel_rfl) rfl (HS.out _ (h30).b) (fun _ _ => exec_buildOp _ _ rfl _ _ _ _ _ _ rfl rfl) ?_
            simp only [Act.put, List.setIfInBounds_toArray, List.set_cons_succ, List.set_cons_zero]
            refine held_all1 9 (by kernel_rfl) ?_
            · have h31 := (h30).m
              refine op_value 9 8 _ _ _ rfl rfl rfl (exec_allocOp rfl) ⟨HS.out _ h31.b, ?_⟩
              simp only [Act.put, List.setIfInBounds_toArray, List.set_cons_succ, List.set_cons_zero]
              refine held_all1 10 (by kernel_rfl) (op_row 10 _ rfl rfl rfl 59 _ _ rfl _ _ rfl rfl 59 zeroOp ((h31).rk _ rfl).1 info_op rfl (op_cells ..) ?_)
              intro WF hkF hgF _
              have hF := (h31).fin hkF hgF
              refine ⟨HS.out _ hF.1, ?_⟩
              refine wpAnyH_done (by kernel_rfl) ?_ _
              refine NoPanic.normal ?_
              exact ⟨rfl, _, _, _, _, _, _, _, rfl, hF⟩
          · have h32 := (h29).m
            refine op_value 9 8 _ _ _ rfl rfl rfl (exec_allocOp rfl) ⟨HS.out _ h32.b, ?_⟩
            simp only [Act.put, List.setIfInBounds_toArray, List.set_cons_succ, List.set_cons_zero]
            refine held_all1 7 (by kernel_rfl) ?_
            · obtain ⟨u33, W33, hr33, h33⟩ := (h32).a2 hvx hvl
              obtain ⟨a2, c2, rfl⟩ := Seg.shapeD (h33.o2 _ _ rfl).seg
              refine op_value 7 66 _ _ _ rfl rfl rfl (exec_app (.tmp 63) (.tmp 65) 34 34 rfl (.slice (some ⟨(w3.drew).heap.size, 0, none⟩) 0 0) (.slice va o.val.length vc) _ rfl rfl hr33) ⟨HS.out _ h33.b, ?_⟩
              simp only [Act.put, List.setIfInBounds_toArray, List.set_cons_succ, List.set_cons_zero]
              refine held_take 8 67 _ (.agg #[.slice a1 o.key.length c1, .bool false, .slice a2 o.val.length c2]) rfl rfl (by kernel_rfl) (by kernel_rfl) (by kernel_rfl) rfl (HS.out _ (h33).b) (fun _ _ => exec_buildOp _ _ rfl _ _ _ _ _ _ rfl rfl) ?_
              simp only [Act.put, List.setIfInBounds_toArray, List.set_cons_succ, List.set_cons_zero]
              refine held_all1 10 (by kernel_rfl) (op_row 10 _ rfl rfl rfl 59 _ _ rfl _ _ rfl rfl 59 zeroOp ((h33).rk _ rfl).1 info_op rfl (op_cells ..) ?_)
              intro WF hkF hgF _
              have hF := (h33).fin hkF hgF
              refine ⟨HS.out _ hF.1, ?_⟩
              refine wpAnyH_done (by kernel_rfl) ?_ _
              refine NoPanic.normal ?_
              exact ⟨rfl, _, _, _, _, _, _, _, rfl, hF⟩
        · have h34 := (h28).m
          refine op_value 9 8 _ _ _ rfl rfl rfl (exec_allocOp rfl) ⟨HS.out _ h34.b, ?_⟩
          simp only [Act.put, List.setIfInBounds_toArray, List.set_cons_succ, List.set_cons_zero]
          refine held_all1 3 (by kernel_rfl) ?_
          · obtain ⟨u35, W35, hr35, h35⟩ := (h34).a1 hkx hkl
            obtain ⟨a1, c1, rfl⟩ := Seg.shapeD (h35.o1 _ _ rfl).seg
            refine op_value 3 62 _ _ _ rfl rfl rfl (exec_app (.tmp 59) (.tmp 61) 34 34 rfl (.slice (some ⟨((w3.drew).alloc (.cells #[] 5)).heap.size, 0, none⟩) 0 0) (.slice ka o.key.length kc) _ rfl rfl hr35) ⟨HS.out _ h35.b, ?_⟩
            simp only [Act.put, List.setIfInBounds_toArray, List.set_cons_succ, List.set_cons_zero]
            refine held_all1 7 (by kernel_rfl) ?_
            · obtain ⟨u36, W36, hr36, h36⟩ := (h35).a2 hvx hvl
              obtain ⟨a2, c2, rfl⟩ := Seg.shapeD (h36.o2 _ _ rfl).seg
              refine op_value 7 66 _ _ _ rfl rfl rfl (exec_app (.tmp 63) (.tmp 65) 34 34 rfl (.slice (some ⟨(w3.drew).heap.size, 0, none⟩) 0 0) (.slice va o.val.length vc) _ rfl rfl hr36) ⟨HS.out _ h36.b, ?_⟩
              simp only [Act.put, List.setIfInBounds_toArray, List.set_cons_succ, List.set_cons_zero]
              refine held_take 8 67 _ (.agg #[.slice a1 o.key.length c1, .bool false, .slice a2 o.val.length c2]) rfl rfl (by kernel_rfl) (by kernel_rfl) (by kernel_rfl) rfl (HS.out _ (h36).b) (fun _ _ => exec_buildOp _ _ rfl _ _ _ _ _ _ rfl rfl) ?_
              simp only [Act.put, List.setIfInBounds_toArray, List.set_cons_succ, List.set_cons_zero]
              refine held_all1 10 (by kernel_rfl) (op_row 10 _ rfl rfl rfl 59 _ _ rfl _ _ rfl rfl 59 zeroOp ((h36).rk _ rfl).1 info_op rfl (op_cells ..) ?_)
              intro WF hkF hgF _
              have hF := (h36).fin hkF hgF
              refine ⟨HS.out _ hF.1, ?_⟩
              refine wpAnyH_done (by kernel_rfl) ?_ _
              refine NoPanic.normal ?_
              exact ⟨rfl, _, _, _, _, _, _, _, rfl, hF⟩
      · have h37 := (h27).m
        refine op_value 9 8 _ _ _ rfl rfl rfl (exec_allocOp rfl) ⟨HS.out _ h37.b, ?_⟩
        simp only [Act.put, List.setIfInBounds_toArray, List.set_cons_succ, List.set_cons_zero]
        refine held_all1 0 (by kernel_rfl) ?_
        · have h38 := (h37).e1
          refine op_value 0 59 _ _ _ rfl rfl rfl (exec_empty rfl) ⟨HS.out _ h38.b, ?_⟩
          simp only [Act.put, List.setIfInBounds_toArray, List.set_cons_succ, List.set_cons_zero]
          refine held_all1 3 (by kernel_rfl) ?_
          · obtain ⟨u39, W39, hr39, h39⟩ := (h38).a1 hkx hkl
            obtain ⟨a1, c1, rfl⟩ := Seg.shapeD (h39.o1 _ _ rfl).seg
            refine op_value 3 62 _ _ _ rfl rfl rfl (exec_app (.tmp 59) (.tmp 61) 34 34 rfl (.slice (some ⟨(((w3.drew).alloc (.cells #[] 5)).alloc (.cells zeroOp 59)).heap.size, 0, none⟩) 0 0) (.slice ka o.key.length kc) _ rfl rfl hr39) ⟨HS.out _ h39.b, ?_⟩
            simp only [Act.put, List.setIfInBounds_toArray, List.set_cons_succ, List.set_cons_zero]
            refine held_all1 7 (by kernel_rfl) ?_
            · obtain ⟨u40, W40, hr40, h40⟩ := (h39).a2 hvx hvl
              obtain ⟨a2, c2, rfl⟩ := Seg.shapeD (h40.o2 _ _ rfl).seg
              refine op_value 7 66 _ _ _ rfl rfl rfl (exec_app (.tmp 63) (.tmp 65) 34 34 rfl (.slice (some ⟨(w3.drew).heap.size, 0, none⟩) 0 0) (.slice va o.val.length vc) _ rfl rfl hr40) ⟨HS.out _ h40.b, ?_⟩
              simp only [Act.put, List.setIfInBounds_toArray, List.set_cons_succ, List.set_cons_zero]
              refine held_take 8 67 _ (.agg #[.slice a1 o.key.length c1, .bool false, .slice a2 o.val.length c2]) rfl rfl (by kernel_rfl) (by kernel_rfl) (by kernel_rfl) rfl (HS.out _ (h40).b) (fun _ _ => exec_buildOp _ _ rfl _ _ _ _ _ _ rfl rfl) ?_
              simp only [Act.put, List.setIfInBounds_toArray, List.set_cons_succ, List.set_cons_zero]
              refine held_all1 10 (by kernel_rfl) (op_row 10 _ rfl rfl rfl 59 _ _ rfl _ _ rfl rfl 59 zeroOp ((h40).rk _ rfl).1 info_op rfl (op_cells ..) ?_)
              intro WF hkF hgF _
              have hF := (h40).fin hkF hgF
              refine ⟨HS.out _ hF.1, ?_⟩
              refine wpAnyH_done (by kernel_rfl) ?_ _
              refine NoPanic.normal ?_
              exact ⟨rfl, _, _, _, _, _, _, _, rfl, hF⟩
    · have h41 := (hI0).m
      refine op_value 9 8 _ _ _ rfl rfl rfl (exec_allocOp rfl) ⟨HS.out _ h41.b, ?_⟩
      simp only [Act.put, List.setIfInBounds_toArray, List.set_cons_succ, List.set_cons_zero]
      refine held_all2 0 4 (by kernel_rfl) ?_ ?_
      · have h42 := (h41).e1
        refine op_value 0 59 _ _ _ rfl rfl rfl (exec_empty rfl) ⟨HS.out _ h42.b, ?_⟩
        simp only [Act.put, List.setIfInBounds_toArray, List.set_cons_succ, List.set_cons_zero]
        refine held_all2 3 4 (by kernel_rfl) ?_ ?_
        · obtain ⟨u43, W43, hr43, h43⟩ := (h42).a1 hkx hkl
          obtain ⟨a1, c1, rfl⟩ := Seg.shapeD (h43.o1 _ _ rfl).seg
          refine op_value 3 62 _ _ _ rfl rfl rfl (exec_app (.tmp 59) (.tmp 61) 34 34 rfl (.slice (some ⟨((w3.drew).alloc (.cells zeroOp 59)).heap.size, 0, none⟩) 0 0) (.slice ka o.key.length kc) _ rfl rfl hr43) ⟨HS.out _ h43.b, ?_⟩
          simp only [Act.put, List.setIfInBounds_toArray, List.set_cons_succ, List.set_cons_zero]
          refine held_all1 4 (by kernel_rfl) ?_
          · have h44 := (h43).e2
            refine op_value 4 63 _ _ _ rfl rfl rfl (exec_empty rfl) ⟨HS.out _ h44.b, ?_⟩
            simp only [Act.put, List.setIfInBounds_toArray, List.set_cons_succ, List.set_cons_zero]
            refine held_all1 7 (by kernel_rfl) ?_
            · obtain ⟨u45, W45, hr45, h45⟩ := (h44).a2 hvx hvl
              obtain ⟨a2, c2, rfl⟩ := Seg.shapeD (h45.o2 _ _ rfl).seg
              refine op_value 7 66 _ _ _ rfl rfl rfl (exec_app (.tmp 63) (.tmp 65) 34 34 rfl (.slice (some ⟨(W43).heap.size, 0, none⟩) 0 0) (.slice va o.val.length vc) _ rfl rfl hr45) ⟨HS.out _ h45.b, ?_⟩
              simp only [Act.put, List.setIfInBounds_toArray, List.set_cons_succ, List.set_cons_zero]
              refine held_take 8 67 _ (.agg #[.slice a1 o.key.length c1, .bool false, .slice a2 o.val.length c2]) rfl rfl (by kernel_rfl) (by kernel_rfl) (by kernel_rfl) rfl (HS.out _ (h45).b) (fun _ _ => exec_buildOp _ _ rfl _ _ _ _ _ _ rfl rfl) ?_
              simp only [Act.put, List.setIfInBounds_toArray, List.set_cons_succ, List.set_cons_zero]
              refine held_all1 10 (by kernel_rfl) (op_row 10 _ rfl rfl rfl 59 _ _ rfl _ _ rfl rfl 59 zeroOp ((h45).rk _ rfl).1 info_op rfl (op_cells ..) ?_)
              intro WF hkF hgF _
              have hF := (h45).fin hkF hgF
              refine ⟨HS.out _ hF.1, ?_⟩
              refine wpAnyH_done (by kernel_rfl) ?_ _
              refine NoPanic.normal ?_
              exact ⟨rfl, _, _, _, _, _, _, _, rfl, hF⟩
        · have h46 := (h42).e2
          refine op_value 4 63 _ _ _ rfl rfl rfl (exec_empty rfl) ⟨HS.out _ h46.b, ?_⟩
          simp only [Act.put, List.setIfInBounds_toArray, List.set_cons_succ, List.set_cons_zero]
          refine held_all1 3 (by kernel_rfl) ?_
          · obtain ⟨u47, W47, hr47, h47⟩ := (h46).a1 hkx hkl
            obtain ⟨a1, c1, rfl⟩ := Seg.shapeD (h47.o1 _ _ rfl).seg
            refine op_value 3 62 _ _ _ rfl rfl rfl (exec_app (.tmp 59) (.tmp 61) 34 34 rfl (.slice (some ⟨((w3.drew).alloc (.cells zeroOp 59)).heap.size, 0, none⟩) 0 0) (.slice ka o.key.length kc) _ rfl rfl hr47) ⟨HS.out _ h47.b, ?_⟩
            simp only [Act.put, List.setIfInBounds_toArray, List.set_cons_succ, List.set_cons_zero]
            refine held_all1 7 (by kernel_rfl) ?_
            · obtain ⟨u48, W48, hr48, h48⟩ := (h47).a2 hvx hvl
              obtain ⟨a2, c2, rfl⟩ := Seg.shapeD (h48.o2 _ _ rfl).seg
              refine op_value 7 66 _ _ _ rfl rfl rfl (exec_app (.tmp 63) (.tmp 65) 34 34 rfl (.slice (some ⟨(((w3.drew).alloc (.cells zeroOp 59)).alloc (.cells #[] 5)).heap.size, 0, none⟩) 0 0) (.slice va o.val.length vc) _ rfl rfl hr48) ⟨HS.out _ h48.b, ?_⟩
              simp only [Act.put, List.setIfInBounds_toArray, List.set_cons_succ, List.set_cons_zero]
              refine held_take 8 67 _ (.agg #[.slice a1 o.key.length c1, .bool false, .slice a2 o.val.length c2]) rfl rfl (by kernel_rfl) (by kernel_rfl) (by kernel_rfl) rfl (HS.out _ (h48).b) (fun _ _ => exec_buildOp _ _ rfl _ _ _ _ _ _ rfl rfl) ?_
              simp only [Act.put, List.setIfInBounds_toArray, List.set_cons_succ, List.set_cons_zero]
              refine held_all1 10 (by kernel_rfl) (op_row 10 _ rfl rfl rfl 59 _ _ rfl _ _ rfl rfl 59 zeroOp ((h48).rk _ rfl).1 info_op rfl (op_cells ..) ?_)
              intro WF hkF hgF _
              have hF := (h48).fin hkF hgF
              refine ⟨HS.out _ hF.1, ?_⟩
              refine wpAnyH_done (by kernel_rfl) ?_ _
              refine NoPanic.normal ?_
              exact ⟨rfl, _, _, _, _, _, _, _, rfl, hF⟩
      · have h49 := (h41).e2
        refine op_value 4 63 _ _ _ rfl rfl rfl (exec_empty rfl) ⟨HS.out _ h49.b, ?_⟩
        simp only [Act.put, List.setIfInBounds_toArray, List.set_cons_succ, List.set_cons_zero]
        refine held_all1 0 (by kernel_rfl) ?_
        · have h50 := (h49).e1
          refine op_value 0 59 _ _ _ rfl rfl rfl (exec_empty rfl) ⟨HS.out _ h50.b, ?_⟩
          simp only [Act.put, List.setIfInBounds_toArray, List.set_cons_succ, List.set_cons_zero]
          refine held_all1 3 (by kernel_rfl) ?_
          · obtain ⟨u51, W51, hr51, h51⟩ := (h50).a1 hkx hkl
            obtain ⟨a1, c1, rfl⟩ := Seg.shapeD (h51.o1 _ _ rfl).seg
            refine op_value 3 62 _ _ _ rfl rfl rfl (exec_app (.tmp 59) (.tmp 61) 34 34 rfl (.slice (some ⟨(((w3.drew).alloc (.cells zeroOp 59)).alloc (.cells #[] 5)).heap.size, 0, none⟩) 0 0) (.slice ka o.key.length kc) _ rfl rfl hr51) ⟨HS.out _ h51.b, ?_⟩
            simp only [Act.put, List.setIfInBounds_toArray, List.set_cons_succ, List.set_cons_zero]
            refine held_all1 7 (by kernel_rfl) ?_
            · obtain ⟨u52, W52, hr52, h52⟩ := (h51).a2 hvx hvl
              obtain ⟨a2, c2, rfl⟩ := Seg.shapeD (h52.o2 _ _ rfl).seg
              refine op_value 7 66 _ _ _ rfl rfl rfl (exec_app (.tmp 63) (.tmp 65) 34 34 rfl (.slice (some ⟨((w3.drew).alloc (.cells zeroOp 59)).heap.size, 0, none⟩) 0 0) (.slice va o.val.length vc) _ rfl rfl hr52) ⟨HS.out _ h52.b, ?_⟩
              simp only [Act.put, List.setIfInBounds_toArray, List.set_cons_succ, List.set_cons_zero]
              refine held_take 8 67 _ (.agg #[.slice a1 o.key.length c1, .bool false, .slice a2 o.val.length c2]) rfl rfl (by kernel_rfl) (by kernel_rfl) (by kernel_rfl) rfl (HS.out _ (h52).b) (fun _ _ => exec_buildOp _ _ rfl _ _ _ _ _ _ rfl rfl) ?_
              simp only [Act.put, List.setIfInBounds_toArray, List.set_cons_succ, List.set_cons_zero]
              refine held_all1 10 (by kernel_rfl) (op_row 10 _ rfl rfl rfl 59 _ _ rfl _ _ rfl rfl 59 zeroOp ((h52).rk _ rfl).1 info_op rfl (op_cells ..) ?_)
              intro WF hkF hgF _
              have hF := (h52).fin hkF hgF
              refine ⟨HS.out _ hF.1, ?_⟩
              refine wpAnyH_done (by kernel_rfl) ?_ _
              refine NoPanic.normal ?_
              exact ⟨rfl, _, _, _, _, _, _, _, rfl, hF⟩
  clear hS0 hI0 HS hkx hvx hkl hvl
  rintro e a' w4 ⟨rfl, x1, x2, a1, c1, a2, c2, m, rfl, hb4, hO1, hO2, hne, hmk, hml⟩
  have hB4 := blift hB3 hb4 hB3.size
  have hS4 := hS3.after hb4
  have hClt : Hid (∀ q, C q → q < w3.heap.size) := hS3.lt
  have d0 := hmk.cell (j := 0) rfl
  have d1 := hmk.cell (j := 1) rfl
  have d2 := hmk.cell (j := 2) rfl
  clear hS3 hb4 hB3
  go_wp2_with fail
  clear d0 d1 d2
  obtain ⟨cd, y, hall, hcd⟩ := own_calm hx hxm (by rw [hxs]; decide) o.key o.val
  have hb5 := (Below.refl w4.heap.size w4).alloc (Nat.le_refl _) (.cells #[.slice a1 o.key.length c1, .bool false, .slice a2 o.val.length c2] 59)
  have hk5 := Blk.new w4 59 #[.slice a1 o.key.length c1, .bool false, .slice a2 o.val.length c2]
  obtain ⟨w5, hw5⟩ : ∃ W, W = w4.alloc (.cells #[.slice a1 o.key.length c1, .bool false, .slice a2 o.val.length c2] 59) := ⟨_, rfl⟩
  rw [← hw5] at hb5 hk5 ⊢
  clear hw5
  have hB5 := blift hB4 hb5 hB4.size
  have hS5 := hS4.after hb5
  have hbl1 := fun q hq => hO1.blocks q hq
  have hbl2 := fun q hq => hO2.blocks q hq
  have hml4 := hmk.lt
  have hO1 := hO1.below hb5 (Nat.le_refl _)
  have hO2 := hO2.below hb5 (Nat.le_refl _)
  have hmk := hmk.below hb5 hml4
  refine (commit_any8 hS5 _ [⟨o.key, false, o.val⟩] (ops_one (o := ⟨o.key, false, o.val⟩) hk5 hO1.seg hO2.seg (by unfold maxLen; omega) (by unfold maxLen; omega))).mono ?_
  rintro e w6 ⟨rfl, hS6, hc6⟩
  rw [hall] at hS6 ⊢
  have hB6 : Below w0.heap.size w0 w6 := hB5.trans (hc6.below hge hB5.size)
  have hO1 := hO1.chg hc6 (fun q hq hC => by have := (hbl1 q hq).1; have := hClt.out q hC; omega)
  have hO2 := hO2.chg hc6 (fun q hq hC => by have := (hbl2 q hq).1; have := hClt.out q hC; omega)
  have hmk := hmk.chg hc6 (fun hC => by have := hClt.out m hC; omega)
  have hz5 := hb5.size
  have hDm : Hid (¬ Fr C w5 w6 m ∧ (∀ q, (Value.slice a1 o.key.length c1).ownBlock = some q → ¬ Fr C w5 w6 q) ∧ (∀ q, (Value.slice a2 o.val.length c2).ownBlock = some q → ¬ Fr C w5 w6 q)) := by
    refine ⟨?_, fun q hq => ?_, fun q hq => ?_⟩
    · rintro (h | h)
      · have := hClt.out m h; omega
      · omega
    · have := hbl1 q hq
      rintro (h | h)
      · have := hClt.out q h; omega
      · omega
    · have := hbl2 q hq
      rintro (h | h)
      · have := hClt.out q h; omega
      · omega
  have hDl : Hid (∀ q, Fr C w5 w6 q → q < w6.heap.size) := hS6.lt
  have hmo1 : Hid (∀ q, (Value.slice a1 o.key.length c1).ownBlock = some q → m ≠ q) := fun q hq e => blk_ne_row hmk hO1 (by decide) (by rw [hq, e])
  have hmo2 : Hid (∀ q, (Value.slice a2 o.val.length c2).ownBlock = some q → m ≠ q) := fun q hq e => blk_ne_row hmk hO2 (by decide) (by rw [hq, e])
  have hlo : Hid (w0.heap.size ≤ m ∧ (∀ q, (Value.slice a1 o.key.length c1).ownBlock = some q → w0.heap.size ≤ q) ∧ (∀ q, (Value.slice a2 o.val.length c2).ownBlock = some q → w0.heap.size ≤ q)) := ⟨by have := hB3s; omega, fun q hq => by have := (hbl1 q hq).1; have := hB3s; omega, fun q hq => by have := (hbl2 q hq).1; have := hB3s; omega⟩
  obtain ⟨D, hDD⟩ : ∃ D, D = Fr C w5 w6 := ⟨_, rfl⟩
  rw [← hDD] at hS6 hDm hDl
  have hne : Hid (∀ (q : Nat), (Value.slice a1 o.key.length c1).ownBlock = some q → (Value.slice a2 o.val.length c2).ownBlock ≠ some q) := hne
  clear hDD hc6 hbl1 hbl2 hk5 hS5 hS4 hb5 hB5 hB4 hClt hge hml hml4 hx hxm hxs hSG hall
  rcases hcd with rfl | rfl | ⟨rfl, hlk, hk1⟩
  · go_wp2_with fail
    go_ret
    exact ⟨rfl, HB.out _ hB6⟩
  · go_wp2_with fail
    go_ret
    exact ⟨rfl, HB.out _ hB6⟩
  have hlk : Hid (lookM y.m o.key = some o.val) := hlk
  have hS6 : Hid (PSt w6 SG L D y) := hS6
  have hO1 : Hid (Own w6 w3.heap.size (.slice a1 o.key.length c1) o.key) := hO1
  have hO2 : Hid (Own w6 w3.heap.size (.slice a2 o.val.length c2) o.val) := hO2
  have hmk : Hid (Blk w6 m 59 #[.slice a1 o.key.length c1, .bool false, .slice a2 o.val.length c2]) := hmk
  go_wp2_with fail
  go_loopw [10] (fun i wr => ∃ (I : Nat) (bs : List UInt8), I ≤ o.val.length ∧ i = .int .i64 (I : Int) ∧ bs.length = o.val.length ∧ Own wr w3.heap.size (.slice a2 o.val.length c2) bs ∧ Chg (fun q => (Value.slice a2 o.val.length c2).ownBlock = some q) w6 wr) (fun i _ => o.val.length - (intOf i).toNat)
  case atStart => exact ⟨0, o.val, by omega, rfl, rfl, hO2.out, Chg.refl _ _⟩
  case round =>
    obtain ⟨I, bs, hI, rfl, hbl, ho, hc⟩ := hrel
    have hm7 := hmk.out.chg hc (fun e => hmo2.out m e rfl)
    have e2 := hm7.cell (j := 2) rfl
    by_cases hlt : I < o.val.length
    · obtain ⟨g, cap, he, -, -, -, -⟩ := ho.form (by omega)
      rw [hbl] at he
      cases he
      obtain ⟨hc1, hfz⟩ := own8_cell ho hbl I hlt
      generalize bs.getD I 0 = y0 at hc1
      have hlI : (I : Int) < (o.val.length : Int) := by omega
      clear hm7
      go_wp2
      rw [xor255]
      go_roundw
      case rel => exact ⟨I + 1, bs.set I (y0 ^^^ 255), by omega, by go_num, by rw [List.length_set]; exact hbl, own8_store ho hbl I _, hc.setCell g I _ (fun _ => rfl)⟩
      case measure => simp [intOf]; omega
    · have hII : I = o.val.length := by omega
      subst hII
      have hO1r := hO1.out.chg hc (fun q hq e => hne.out q hq e)
      have hSr := hS6.out.chg hc (fun q hq e => hDm.out.2.2 q e hq)
      have hBr : Below w0.heap.size w0 wr := hB6.trans (hc.below (fun q hq => hlo.out.2.2 q hq) hB6.size)
      have e0 := hm7.cell (j := 0) rfl
      obtain ⟨g, cap, he, -, -, -, -⟩ := hO1r.form (by omega)
      cases he
      obtain ⟨hc1, hfz⟩ := own8_cell hO1r rfl 0 (by omega)
      generalize o.key.getD 0 0 = y0 at hc1
      have hBk : Hid (∀ u, Below w0.heap.size w0 (wr.setCell ⟨g, 0, none⟩ u)) := fun u => hBr.setCell (p := ⟨g, 0, none⟩) (hlo.out.2.1 g rfl) u
      have hSk : Hid (∀ u, PSt (wr.setCell ⟨g, 0, none⟩ u) SG L D y) := fun u => hSr.chg ((Chg.refl (fun k => k = g) wr).setCell g 0 u (fun _ => rfl)) (fun q hq e => hDm.out.2.1 q (by rw [e]; rfl) hq)
      have k0 : ∀ u, (wr.setCell ⟨g, 0, none⟩ u).cell? ⟨w.heap.size, 0, none⟩ = some (.slice ka o.key.length kc) := fun u => (HC.out _ (hBk.out u)).1
      have hkp : (0 : Int) < (o.key.length : Int) := by omega
      clear hm7 hO1 hO2 hmk hS6 hSr hO1r ho hc hBr hB6 hmo1 hmo2 hne
      go_wp2_with fail
      rw [xor255]
      obtain ⟨w7, hw7⟩ : ∃ W, W = wr.setCell ⟨g, 0, none⟩ (v8 (y0 ^^^ 255)) := ⟨_, rfl⟩
      have hS7 : PSt w7 SG L D y := by rw [hw7]; exact hSk.out _
      have hB7 : Below w0.heap.size w0 w7 := by rw [hw7]; exact hBk.out _
      obtain ⟨-, -, s7, -⟩ := HC.out w7 hB7
      rw [← show w7 = wr.setCell ⟨g, 0, none⟩ (.int .u8 (n8 (y0 ^^^ 255))) from hw7]
      clear hw7 hSk hBk k0 e0 e2
      refine (get_any8 hS7 _ o.key s7 (by unfold maxLen; omega)).mono ?_
      rintro e w8 ⟨v, rfl, hOv, hb8⟩
      rw [hlk.out] at hOv ⊢
      obtain ⟨av, cv, rfl⟩ := Seg.shapeD hOv.seg
      have hOv : Hid (Own w8 w7.heap.size (.slice av o.val.length cv) o.val) := hOv
      have hB8 := blift hB7 hb8 hB7.size
      have hS8 : Hid (PSt w8 SG L D y) := hS7.after hb8
      have hlt7 : Hid (∀ q, D q → q < w7.heap.size) := hS7.lt
      have hz7 := hB7.size
      clear hS7 hb8 hB7 s7 hc1 hfz
      go_wp2_with fail
      go_loopw [13] (fun i wr => ∃ (I : Nat) (bs : List UInt8), I ≤ o.val.length ∧ i = .int .i64 (I : Int) ∧ bs.length = o.val.length ∧ Own wr w7.heap.size (.slice av o.val.length cv) bs ∧ Chg (fun q => (Value.slice av o.val.length cv).ownBlock = some q) w8 wr) (fun i _ => o.val.length - (intOf i).toNat)
      case atStart => exact ⟨0, o.val, by omega, rfl, rfl, hOv.out, Chg.refl _ _⟩
      case round =>
        obtain ⟨I, bs, hI, rfl, hbl, ho, hc⟩ := hrel
        by_cases hlt : I < o.val.length
        · obtain ⟨g, cap, he, -, -, -, -⟩ := ho.form (by omega)
          rw [hbl] at he
          cases he
          obtain ⟨hc1, hfz⟩ := own8_cell ho hbl I hlt
          generalize bs.getD I 0 = y0 at hc1
          have hlI : (I : Int) < (o.val.length : Int) := by omega
          go_wp2
          rw [xor255]
          go_roundw
          case rel => exact ⟨I + 1, bs.set I (y0 ^^^ 255), by omega, by go_num, by rw [List.length_set]; exact hbl, own8_store ho hbl I _, hc.setCell g I _ (fun _ => rfl)⟩
          case measure => simp [intOf]; omega
        · have hII : I = o.val.length := by omega
          subst hII
          have hSr := hS8.out.chg hc (fun q hq e => by have := (ho.blocks q e).1; have := hlt7.out q hq; omega)
          have hBr : Below w0.heap.size w0 wr := hB8.trans (hc.below (fun q hq => by have := (ho.blocks q hq).1; omega) hB8.size)
          obtain ⟨k0, -, sk, -⟩ := HC.out wr hBr
          clear ho hc hS8 hOv hB8
          go_wp2_with fail
          refine (get_any8 hSr _ o.key sk (by unfold maxLen; omega)).mono ?_
          rintro e w9 ⟨v, rfl, hOw, hb9⟩
          rw [hlk.out] at hOw ⊢
          obtain ⟨aw, cw, rfl⟩ := Seg.shapeD hOw.seg
          have hB9 := blift hBr hb9 hBr.size
          obtain ⟨-, k2, -, sv⟩ := HC.out w9 hB9
          have t1 := seg_str8 hOw.seg
          have t2 := seg_str8 sv
          rw [show (some o.val).getD [] = o.val from rfl] at t1
          clear hSr hBr k0 sk hOw hb9 sv
          go_wp2_with fail
          go_ret
          exact ⟨rfl, HB.out _ hB9⟩
end Go.Proofs.YtfghfciigdkioaaGreatR
