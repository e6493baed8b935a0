/-
  What is proved here: of all bytes and turns, the statement FrameSpoilt answers true: of a frame with bits of one byte turned and another one behind, the other one is told, and of the first what the document says.
  Conditions: the variable fourBits holds the sixteen words.
-/
import Derived.Test.YtchbfhckocfjhaaDoorFrameFrames
import Derived.Test.YtchbfhckocfjhaaDoorLawFrameReads
namespace Go.Proofs.YtchbfhckocfjhaaDoor
open Go.RowKit

theorem spoilt_last (S : List UInt8) (b : List UInt8) (hb : b.length ≤ 2048) : ∃ t, (feedS ⟨[], false, [], 0⟩ ((S ++ [0]) ++ frameOf b)).told = t ++ [b] := by
  have hok0 : FS.ok ⟨[], false, [], 0⟩ := ⟨by simp, fun h => by cases h⟩
  obtain ⟨h1, h2⟩ := feed_noise _ hok0 S
  rw [feedS_append]
  generalize feedS ⟨[], false, [], 0⟩ (S ++ [0]) = F at *
  obtain ⟨h, s, t, n⟩ := F
  simp only at h1 h2
  subst h1 h2
  rw [feed_frame t n b hb]
  exact ⟨t, rfl⟩
theorem wrap_byte (z : Int) : ∃ T : UInt8, IntKind.u8.wrap z = n8 T := by
  refine ⟨UInt8.ofNat (z % 256).toNat, ?_⟩
  rw [IntKind.wrap_u8]
  unfold n8
  have h1 : 0 ≤ z % 256 := Int.emod_nonneg _ (by decide)
  have h2 : z % 256 < 256 := Int.emod_lt_of_pos _ (by decide)
  have : (UInt8.ofNat (z % 256).toNat).toNat = (z % 256).toNat % 256 := by simp
  rw [this]
  omega

set_option maxRecDepth 100000 in
set_option maxHeartbeats 8000000 in
theorem frameSpoilt_any (x : Value) (la : List UInt8) (ao : Option Addr) (len c : Nat) (y : Value) (bs : List UInt8) (ao2 : Option Addr) (len2 c2 : Nat) (z0 z1 : Int) (w : World) (hx : x = .slice ao len c) (hl : la.length = len) (hm : len ≤ maxLen) (hseg : Seg w x la) (hy : y = .slice ao2 len2 c2) (hl2 : bs.length = len2) (hm2 : len2 ≤ maxLen) (hseg2 : Seg w y bs)
    (b0 : -9223372036854775808 ≤ z0 ∧ z0 ≤ 9223372036854775807) (_b1 : -9223372036854775808 ≤ z1 ∧ z1 ≤ 9223372036854775807) (hgf : 0 < w.heap.size) (hf : Tab w 0 (fours.map v32)) :
    Calls Tryd.prog 6 #[x, y, .agg #[.int .i64 z0, .int .i64 z1]] w fun e w' => e = .returned (.bool true) ∧ Below w.heap.size w w' := by
  subst hx hy
  unfold maxLen at hm hm2
  go_enter Tryd.func6, Tryd.ntmps6
  have hbX0 := Blk.new w 41 #[.int .i64 z0, .int .i64 z1]
  have hB0 : Below w.heap.size w (w.alloc (.cells #[.int .i64 z0, .int .i64 z1] 41)) := (Below.refl _ _).alloc (Nat.le_refl _) _
  have sX : w.heap.size < (w.alloc (.cells #[.int .i64 z0, .int .i64 z1] 41)).heap.size := by simp
  go_wp2_with fail
  generalize (w.alloc (.cells #[.int .i64 z0, .int .i64 z1] 41)) = Wx at *
  refine (fawake_any _).mono ?_
  rintro e w1 ⟨rfl, hb1⟩
  have s1 := hb1.size
  have hB1 : Below w.heap.size w w1 := hB0.trans (hb1.mono (by omega))
  have hX1 := hbX0.below hb1 hbX0.lt
  have x0 := hX1.cell (j := 0) rfl
  have x1 := hX1.cell (j := 1) rfl
  by_cases hbig : 2048 < len
  · go_wp2
    go_ret
    exact ⟨rfl, hB1⟩
  by_cases hbig2 : 2048 < len2
  · go_wp2
    go_ret
    exact ⟨rfl, hB1⟩
  by_cases hneg : z0 < 0
  · go_wp2
    go_ret
    exact ⟨rfl, hB1⟩
  have hok0 : FS.ok ⟨[], false, [], 0⟩ := ⟨by simp, fun h => by cases h⟩
  have HP1 := put_any (.slice ao len c) la w1 (by omega) (hseg.below hB1 (Nat.le_refl _)) (by omega) (hf.below hB1 hgf)
  rw [putOf_frame la (by omega)] at HP1
  have hfa := frameOf_len la (by omega)
  obtain ⟨SA, hSA⟩ : ∃ SA, frameOf la = SA ++ [0] := ⟨_, rfl⟩
  have hSl : 0 < SA.length := by
    have h1 := (stuff_len _ (la ++ sumB (crcOf la)) (Nat.le_refl _)).1
    have h2 : SA = stuff (la ++ sumB (crcOf la)) := by
      have := hSA
      unfold frameOf at this
      exact (List.append_cancel_right this).symm
    rw [h2]; omega
  rw [hSA] at HP1 hfa
  have HP1' : Hid (Calls Tryd.prog 8 #[.slice ao len c] w1 (putPost w1 (some (SA ++ [0])))) := HP1
  simp only [List.length_append, List.length_cons, List.length_nil, Nat.zero_add] at hfa
  clear HP1 hSA
  go_wp2_with fail
  refine HP1'.out.mono ?_
  rintro e w2 ⟨⟨v2, rfl, ho2⟩, hb2⟩
  clear HP1'
  have hB2 : Below w.heap.size w w2 := hB1.trans (hb2.mono hB1.size)
  have hX2 := hX1.below hb2 hX1.lt
  obtain ⟨gf, cf, rfl, hgf1, hgf2, hcf, hrf⟩ := ho2.form (by simp)
  have HP2 := put_any (.slice ao2 len2 c2) bs w2 (by omega) (hseg2.below hB2 (Nat.le_refl _)) (by have := hB2.size; omega) (hf.below hB2 hgf)
  rw [putOf_frame bs (by omega)] at HP2
  have hfb := frameOf_len bs (by omega)
  have HL := fun S => spoilt_last S bs (by omega)
  have HLL : Hid (∀ S, ∃ t, (feedS ⟨[], false, [], 0⟩ ((S ++ [0]) ++ frameOf bs)).told = t ++ [bs]) := HL
  have HP2' : Hid (Calls Tryd.prog 8 #[.slice ao2 len2 c2] w2 (putPost w2 (some (frameOf bs)))) := HP2
  clear HP2 HL
  generalize frameOf bs = GB at *
  simp only [List.length_append, List.length_cons, List.length_nil, Nat.zero_add] at ho2 hcf ⊢
  go_wp2_with fail
  refine HP2'.out.mono ?_
  rintro e w3 ⟨⟨v3, rfl, ho3⟩, hb3⟩
  clear HP2'
  obtain ⟨a3, c3, rfl⟩ := ho3.seg.shapeF
  have hB3 : Below w.heap.size w w3 := hB2.trans (hb3.mono hB2.size)
  have hX3 := hX2.below hb3 hX2.lt
  have ho2' := ho2.below hb3 (Nat.le_refl _)
  go_wp2_with fail
  refine (new_any _).mono ?_
  rintro e w4 ⟨rfl, rfl⟩
  have hR4 := rd_new 45 w3 w.heap.size hB3.size
  have hX4 := hX3.alloc (.cells #[.slice none 0 0, .bool false] 45)
  have hB4 : Below w.heap.size w (w3.alloc (.cells #[.slice none 0 0, .bool false] 45)) := hB3.alloc hB3.size _
  have ho2'' := ho2'.alloc (.cells #[.slice none 0 0, .bool false] 45)
  have ho3' := ho3.alloc (.cells #[.slice none 0 0, .bool false] 45)
  have s4 : w3.heap.size < (w3.alloc (.cells #[.slice none 0 0, .bool false] 45)).heap.size := by simp
  generalize (w3.alloc (.cells #[.slice none 0 0, .bool false] 45)) = W4 at *
  have y0 := hX4.cell (j := 0) rfl
  have y1 := hX4.cell (j := 1) rfl
  obtain ⟨T, hT⟩ := wrap_byte z1
  obtain ⟨kk, hkk⟩ : ∃ kk : Nat, z0.tmod (SA.length : Int) = (kk : Int) := ⟨(z0.tmod (SA.length : Int)).toNat, by rw [Int.tmod_eq_emod_of_nonneg (by omega)]; have := Int.emod_nonneg z0 (show (SA.length : Int) ≠ 0 by omega); omega⟩
  have hkl : kk < SA.length := by
    rw [Int.tmod_eq_emod_of_nonneg (by omega)] at hkk
    have := Int.emod_lt_of_pos z0 (show (0 : Int) < SA.length by omega)
    omega
  obtain ⟨g', cap', hv', _, _, _, hrf4⟩ := ho2''.form (by simp)
  simp only [List.length_append, List.length_cons, List.length_nil, Nat.zero_add, Value.slice.injEq, Option.some.injEq, Addr.mk.injEq, and_true] at hv'
  obtain ⟨rfl, rfl⟩ : g' = gf ∧ cap' = cf := ⟨hv'.1.symm, hv'.2.2.symm⟩
  have hck := hrf4 kk (by simp; omega)
  rw [Nat.zero_add, List.getElem_append_left hkl] at hck
  clear hv' hrf hrf4
  by_cases hT0 : T = 0
  · have q1 : (n8 T == 0) = true := by rw [hT0]; rfl
    clear hT0
    generalize n8 SA[kk] = XK at *
    generalize n8 T = TT at *
    go_wp2
    go_ret
    exact ⟨rfl, hB4⟩
  have q1 : (n8 T == 0) = false := by
    simp only [beq_eq_false_iff_ne, ne_eq, n8]
    intro h
    exact hT0 (UInt8.toNat_inj.1 (by simpa using h))
  by_cases hTX : SA[kk] = T
  · have q2 : (n8 SA[kk] == n8 T) = true := by rw [hTX]; simp
    generalize n8 SA[kk] = XK at *
    generalize n8 T = TT at *
    go_wp2
    go_ret
    exact ⟨rfl, hB4⟩
  have q2 : (n8 SA[kk] == n8 T) = false := by
    simp only [beq_eq_false_iff_ne, ne_eq, n8]
    intro h
    exact hTX (UInt8.toNat_inj.1 (by omega))
  have hxr := xor8 SA[kk] T
  have hsA := ho2''.seg
  clear hT0 hTX
  have hlA : (SA ++ [(0 : UInt8)]).length = SA.length + 1 := by simp
  have hsB := ho3'.seg
  obtain ⟨SC, hSC⟩ : ∃ SC, SC = SA.set kk (SA[kk] ^^^ T) := ⟨_, rfl⟩
  have hSCl : SC.length ≤ SA.length := by rw [hSC]; simp
  have HSC : Hid ((SA ++ [0]).set kk (SA[kk] ^^^ T) = SC ++ [0] ∧ SC.length = SA.length) := by rw [hSC]; exact ⟨by rw [List.set_append_left _ _ hkl], by simp⟩
  clear hSC
  go_wp2_with (first
    | (at_builtin; refine app_own _ rfl (.tmp 86) (.tmp 87) rfl W4.heap.size _ [] rfl (by exact own_emptyF _ _ _ rfl (Nat.le_refl _)) _ (SA ++ [0]) rfl (by exact hsA.alloc _) (by simp; omega) (by simp) ?_; intro v5 w5 ho5 hg5 _; rw [List.nil_append] at ho5; have hB5 := below_grown ((Below.refl W4.heap.size W4).alloc (Nat.le_refl _) _) hg5 (by simp) (fun q hq => by have h2 : W4.heap.size = q := Option.some.inj hq; omega); have s5 := hB5.size; clear hg5; obtain ⟨gc, cc, rfl, hgc1, hgc2, hgc3, hrc⟩ := ho5.form (by simp); have hck5 := hrc kk (by simp; omega); rw [Nat.zero_add, List.getElem_append_left hkl] at hck5; obtain ⟨hrs, hfz⟩ := ho5.set kk (SA[kk] ^^^ T); rw [hlA]; rw [hlA] at hgc3; obtain ⟨W5, hW5⟩ : ∃ W5, w5.setCell ⟨gc, kk, none⟩ (.int .u8 (n8 (SA[kk] ^^^ T))) = W5 := ⟨_, rfl⟩; have hsz5 : W5.heap.size = w5.heap.size := (by rw [← hW5]; simp); have HZ5 : Hid (W5.heap.size = w5.heap.size) := hsz5; clear hsz5; have hsc : Seg W5 (.slice (some ⟨gc, 0, none⟩) (SA.length + 1) cc) (SC ++ [0]) := (by have hrs' : Row W5 gc 0 ((SA ++ [0]).set kk (SA[kk] ^^^ T)) := (by rw [← hW5]; exact hrs); rw [HSC.out.1] at hrs'; exact Seg.of_row hrs' (by simp [HSC.out.2]) hgc3 (by rw [HZ5.out]; exact hgc2)); have hB55 : Below W4.heap.size W4 W5 := (by rw [← hW5]; exact hB5.setCell (p := ⟨gc, kk, none⟩) hgc1 _); clear hrs hrc; obtain ⟨W6, hW6⟩ : ∃ W6, W5.alloc (.cells #[.slice none 0 0, .bool false] 33) = W6 := ⟨_, rfl⟩; have s6 : W5.heap.size < W6.heap.size := (by rw [← hW6]; simp); have hRw6 : Rd 33 W6 w.heap.size W5.heap.size (.slice none 0 0) [] false := (by rw [← hW6]; exact rd_new 33 W5 w.heap.size (Nat.le_trans hB4.size hB55.size)); have hsc6 : Seg W6 (.slice (some ⟨gc, 0, none⟩) (SA.length + 1) cc) (SC ++ [0]) := (by rw [← hW6]; exact hsc.alloc _); have hB46 : Below W4.heap.size W4 W6 := (by rw [← hW6]; exact hB55.alloc hB55.size _); have hsb6 := hsB.below hB46 (Nat.le_refl _))
    | (at_builtin; refine app_own _ rfl (.tmp 100) (.tmp 101) rfl W6.heap.size _ [] rfl (by exact own_emptyF _ _ _ rfl (Nat.le_refl _)) _ (SC ++ [0]) rfl (by exact hsc6.alloc _) (by simp; omega) (by simp) ?_; intro v7 w7 ho7 hg7 _; rw [List.nil_append] at ho7; have hB7 := below_grown ((Below.refl W6.heap.size W6).alloc (Nat.le_refl _) _) hg7 (by simp) (fun q hq => by have h2 : W6.heap.size = q := Option.some.inj hq; omega); have s7 := hB7.size; clear hg7)
    | (at_builtin; refine app_own _ rfl (.tmp 102) (.tmp 103) rfl W6.heap.size _ (SC ++ [0]) rfl ho7 _ GB rfl (hsb6.below hB7 (Nat.le_refl _)) (by simp; omega) s7 ?_; intro v8 w8 ho8 hg8 _; have hB8 := below_grown hB7 hg8 s7 (fun q hq => (ho7.blocks q hq).1); have s8 := hB8.size; clear hg8)
    | fail)
  have hRw8 := hRw6.chg (Chg.of_below (S := fun _ => False) hB8 (Nat.le_refl _)) (fun _ _ h => h)
  have hB48 : Below W4.heap.size W4 w8 := hB46.trans (hB8.mono hB46.size)
  have hlF : (SC ++ [0] ++ GB).length ≤ 100000 := by simp; omega
  have HFW := refFeed_any w.heap.size W5.heap.size (.slice none 0 0) [] false v8 (SC ++ [0] ++ GB) w8 hlF hRw8 hok0 (Nat.le_trans hB4.size hB48.size) ho8.seg (fun _ q hq ht => by
    rcases ht with rfl | ht
    · have := (ho8.blocks _ hq).1; omega
    · simp [Value.ownBlock] at ht)
  obtain ⟨t, htl⟩ := HLL.out SC
  have hFl := feedS_len (SC ++ [0] ++ GB) ⟨[], false, [], 0⟩
  obtain ⟨F, hF⟩ : ∃ F, F = feedS ⟨[], false, [], 0⟩ (SC ++ [0] ++ GB) := ⟨_, rfl⟩
  rw [← hF] at HFW htl hFl
  have HF : Hid (F = feedS ⟨[], false, [], 0⟩ (SC ++ [0] ++ GB)) := hF
  simp only [List.length_nil, Nat.zero_add] at hFl
  clear hF hW5 hW6
  refine HFW.mono ?_
  rintro e w9 ⟨tv9, vs9, hv9, rfl, hRw9, hT9, hC9, hG9⟩
  clear HFW
  have hB49 : Below W4.heap.size W4 w9 := hB48.trans (hC9.below (fun q hq => by
    rcases hq with rfl | hq
    · exact hB55.size
    · simp [Value.ownBlock] at hq) hB48.size)
  have hR9 := hR4.chg (Chg.of_below (S := fun _ => False) hB49 (Nat.le_refl _)) (fun _ _ h => h)
  have hsc9 := (hsc6.below hB8 (Nat.le_refl _)).chg hC9 (fun _ q hq ht => by
    have hq' : gc = q := by simpa [Value.ownBlock] using hq
    rcases ht with rfl | ht
    · have := HZ5.out; omega
    · simp [Value.ownBlock] at ht)
  have hsb9 := hsB.below hB49 (Nat.le_refl _)
  have hT9' := (hT9.mono (lo' := w.heap.size) (Nat.le_trans hB4.size hB48.size)).beside
  clear hT9 hG9 hRw8 hRw6 hsc6 hsc ho7 ho8 hRw9
  go_wp2_with (first
    | (at_builtin; refine app_own _ rfl (.tmp 110) (.tmp 111) rfl w9.heap.size _ [] rfl (by exact own_emptyF _ _ _ rfl (Nat.le_refl _)) _ (SC ++ [0]) rfl (by exact hsc9.alloc _) (by simp; omega) (by simp) ?_; intro v10 w10 ho10 hg10 _; rw [List.nil_append] at ho10; have hB10 := below_grown ((Below.refl w9.heap.size w9).alloc (Nat.le_refl _) _) hg10 (by simp) (fun q hq => by have h2 : w9.heap.size = q := Option.some.inj hq; omega); have s10 := hB10.size; clear hg10)
    | (at_builtin; refine app_own _ rfl (.tmp 112) (.tmp 113) rfl w9.heap.size _ (SC ++ [0]) rfl ho10 _ GB rfl (hsb9.below hB10 (Nat.le_refl _)) (by simp; omega) s10 ?_; intro v11 w11 ho11 hg11 _; have hB11 := below_grown hB10 hg11 s10 (fun q hq => (ho10.blocks q hq).1); have s11 := hB11.size; clear hg11)
    | fail)
  have hR11 := hR9.chg (Chg.of_below (S := fun _ => False) hB11 (Nat.le_refl _)) (fun _ _ h => h)
  have hT11 := hT9'.step hR9 (by decide) (by decide) (Chg.of_below hB11 (Nat.le_refl _)) (Goes.refl _ _)
  have hB411 : Below W4.heap.size W4 w11 := hB49.trans (hB11.mono hB49.size)
  have hBw11 : Below w.heap.size w w11 := hB4.trans (hB411.mono hB4.size)
  have HFR := feed_any w.heap.size w3.heap.size (.slice none 0 0) [] false v11 (SC ++ [0] ++ GB) w11 hlF hR11 hok0 hBw11.size ho11.seg (fun _ q hq ht => by
    rcases ht with rfl | ht
    · have := (ho11.blocks _ hq).1; have := hB49.size; omega
    · simp [Value.ownBlock] at ht) hgf (hf.below hBw11 hgf)
  rw [← HF.out] at HFR
  refine HFR.mono ?_
  rintro e w12 ⟨tv12, vs12, hv12, rfl, hR12, hT12, hC12, hG12⟩
  have hT9s := hT11.step hR11 (by decide) (by decide) hC12 hG12
  have hB12 : Below w.heap.size w w12 := hBw11.trans (hC12.below (fun q hq => hR11.touch q hq) hBw11.size)
  have HS := same_any tv12 tv9 F.told F.told w12 hT12.rowsIn hT9s.rowsIn (by omega)
  rw [decide_eq_true rfl] at HS
  have hrows := hT12.rowsIn
  clear HFR hT11 hT9' hR11 hR9 ho10 ho11 hC12 hG12 hT9s hT12
  go_wp2_with fail
  refine HS.mono ?_
  rintro e w13 ⟨rfl, nq, rfl⟩
  have hB13 : Below w.heap.size w (w12.drewN nq) := Below.drewN hB12 nq
  have hsb13 := hseg2.below hB13 (Nat.le_refl _)
  have hrows13 : RowsIn (w12.drewN nq) tv12 F.told := hrows
  clear HS hrows
  generalize w12.drewN nq = W13 at *
  rw [htl] at hrows13
  obtain ⟨at1, ct1, rfl⟩ := hrows13.shape
  have hlt : (t ++ [bs]).length = t.length + 1 := by simp
  rw [hlt] at hrows13 ⊢
  obtain ⟨bt, ot, rfl, ak, ck, hcl, hsl, hml⟩ := hrows13.at t.length (by omega) hlt
  have hgd : (t ++ [bs]).getD t.length [] = bs := by simp [List.getD]
  rw [hgd] at hcl hsl hml
  rw [hl2] at hcl hsl hml
  have q1 := fun k => seg_stringF (show Seg (W13.drewN k) _ bs from hsl) 9 Tryd.underlying9
  have q2 := fun k => seg_stringF (show Seg (W13.drewN k) _ bs from hsb13) 9 Tryd.underlying9
  have htm : t.length ≤ 100000 := by have := congrArg List.length htl; rw [hlt] at this; omega
  clear hrows13 htl hgd hlt
  generalize (⟨bs.toArray⟩ : ByteArray) = BX at q1 q2
  have hpos : decide ((0 : Int) < (t.length : Int) + 1) = true := by rw [decide_eq_true_eq]; omega
  go_wp2_with fail
  go_quiet (fail)
  go_wp2
  go_ret
  exact ⟨rfl, Below.drewN hB13 _⟩
end Go.Proofs.YtchbfhckocfjhaaDoor
