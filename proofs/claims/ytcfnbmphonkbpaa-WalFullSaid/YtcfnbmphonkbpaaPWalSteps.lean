/-
  What is proved here: the program's log: the two closures of a change: the pieces, and the head, are written.
  Conditions: the disk and the log lie in memory.
-/
import Derived.Test.YtcfnbmphonkbpaaPWalWrite
namespace Go.Proofs.Ytcfnbmphonkbpaa
open Go.RowKit

/-- What a change has at hand: the log, the next head, from which sector on, the bytes. -/
structure Boxes (w : World) (CD : Nat → Prop) (bl bn bi bb G N g M I : Nat) (x : Value) : Prop where
  l : Blk w bl 29 #[.pointer (some ⟨G, 0, none⟩)]
  n : Blk w bn 55 #[.int .i64 (N : Int), .int .i64 (g : Int), .int .i64 (M : Int)]
  i : Blk w bi 3 #[.int .i64 (I : Int)]
  b : Blk w bb 30 #[x]
  ol : ¬ CD bl
  on : ¬ CD bn
  oi : ¬ CD bi
  ob : ¬ CD bb
theorem Boxes.chg {w w' : World} {CD S : Nat → Prop} {bl bn bi bb G N g M I : Nat} {x : Value} (h : Boxes w CD bl bn bi bb G N g M I x) (hc : Chg S w w') (hS : ∀ q, S q → CD q) : Boxes w' CD bl bn bi bb G N g M I x :=
  ⟨h.l.chg hc (fun e => h.ol (hS _ e)), h.n.chg hc (fun e => h.on (hS _ e)), h.i.chg hc (fun e => h.oi (hS _ e)), h.b.chg hc (fun e => h.ob (hS _ e)), h.ol, h.on, h.oi, h.ob⟩
theorem Boxes.chgG {w w' : World} {CD S : Nat → Prop} {bl bn bi bb G N g M I : Nat} {x : Value} (h : Boxes w CD bl bn bi bb G N g M I x) (hc : Chg S w w') (hS : ∀ q, S q → CD q ∨ q = G) (hG : G < bl ∧ G < bn ∧ G < bi ∧ G < bb) : Boxes w' CD bl bn bi bb G N g M I x := by
  have key : ∀ {q : Nat}, ¬ CD q → G < q → ¬ S q := fun h1 h2 e => by rcases hS _ e with e | e; exact h1 e; omega
  exact ⟨h.l.chg hc (key h.ol hG.1), h.n.chg hc (key h.on hG.2.1), h.i.chg hc (key h.oi hG.2.2.1), h.b.chg hc (key h.ob hG.2.2.2), h.ol, h.on, h.oi, h.ob⟩
theorem Boxes.fr {w w' : World} {CD : Nat → Prop} {bl bn bi bb G N g M I : Nat} {x : Value} (h : Boxes w CD bl bn bi bb G N g M I x) (hc : Chg CD w w') : Boxes w' (Fr CD w w') bl bn bi bb G N g M I x := by
  have h' := h.chg hc (fun _ h => h)
  have key : ∀ {q : Nat}, ¬ CD q → q < w.heap.size → ¬ Fr CD w w' q := fun hq hl e => by rcases e with e | e; exact hq e; omega
  exact ⟨h'.l, h'.n, h'.i, h'.b, key h.ol h.l.lt, key h.on h.n.lt, key h.oi h.i.lt, key h.ob h.b.lt⟩
set_option maxRecDepth 100000 in
set_option maxHeartbeats 2000000 in
theorem settle1_any {w : World} {G size n gen len : Nat} {bg bk : Bool} {tv : Value} {L : PLay} {CD : Nat → Prop} {s : DS} {bl bn bi bb N g M I : Nat} {x : Value} (h : LogB w G L.g size n gen len bg bk tv) (hD : OD w L CD s) (hG : ¬ CD G) (hX : Boxes w CD bl bn bi bb G N g M I x) (b : List UInt8) (hb : b.length ≤ 1000000) (hx : SegA w CD x (b.drop (I * 128))) (hsz : size ≤ 262016) (hI : I ≤ 5000) (F : Nat) (hF : b.length ≤ (I + F) * 128) :
    Calls Try.prog 45 #[.pointer (some ⟨bl, 0, none⟩), .pointer (some ⟨bn, 0, none⟩), .pointer (some ⟨bi, 0, none⟩), .pointer (some ⟨bb, 0, none⟩)] w fun e w' => e = .returned (.int .i64 (rowsW (2 + g % 2 * (size / 128)) b F I s).1) ∧ OD w' L (Fr CD w w') (rowsW (2 + g % 2 * (size / 128)) b F I s).2 ∧ Chg CD w w' := by
  have hFI : 2 + g % 2 * (size / 128) + I ≤ 100000 := by
    rcases (show g % 2 = 0 ∨ g % 2 = 1 by omega) with e | e <;> rw [e] <;> omega
  have HSE := sector_any (Blk.drew h) (by omega : size ≤ 1000000) g I (by omega)
  have HW := writeSec_any (Blk.drew h) (hD.after ((Below.refl _ _).drew)) hG (2 + g % 2 * (size / 128)) I hFI x b hb ⟨hx.1.drew, hx.2⟩ F hF
  have HCA : Hid (∀ W : World, Chg CD w W → W.cell? ⟨bl, 0, none⟩ = some (.pointer (some ⟨G, 0, none⟩)) ∧ W.cell? ⟨bn, 1, none⟩ = some (.int .i64 (g : Int)) ∧ W.cell? ⟨bi, 0, none⟩ = some (.int .i64 (I : Int)) ∧ W.cell? ⟨bb, 0, none⟩ = some x) := fun W hW => by
    have hX' := hX.chg hW (fun _ h => h)
    exact ⟨hX'.l.cell rfl, hX'.n.cell rfl, hX'.i.cell rfl, hX'.b.cell rfl⟩
  obtain ⟨ax, cx, rfl⟩ := Seg.shapeD hx.1
  have hS0 := HCA.out w.drew ((Chg.refl _ _).drew)
  generalize rowsW (2 + g % 2 * (size / 128)) b F I s = Y at *
  obtain ⟨E, t2⟩ := Y
  dsimp only at HW ⊢
  generalize 2 + g % 2 * (size / 128) + I = KK at *
  generalize (b.drop (I * 128)).length = LB at *
  clear h hD hX hx
  go_enter Try.func45, Try.ntmps45
  go_wp2_with fail
  refine held_begin (fun V => V.cell? ⟨bl, 0, none⟩ = some (.pointer (some ⟨G, 0, none⟩)) ∧ V.cell? ⟨bn, 1, none⟩ = some (.int .i64 (g : Int)) ∧ V.cell? ⟨bi, 0, none⟩ = some (.int .i64 (I : Int)) ∧ V.cell? ⟨bb, 0, none⟩ = some (.slice ax LB cx)) (by kernel_rfl) ?_
  refine held_take 0 5 _ (.pointer (some ⟨G, 0, none⟩)) rfl rfl (by kernel_rfl) (by kernel_rfl) (by kernel_rfl) rfl hS0 (fun V hV => exec_loadc 29 _ rfl _ _ rfl (load_one 29 (fun _ => by kernel_rfl) V _ _ _ hV.1)) ?_
  simp only [Act.put, List.setIfInBounds_toArray, List.set_cons_succ, List.set_cons_zero]
  refine held_take 1 6 _ (.pointer (some ⟨G, 0, none⟩)) rfl rfl (by kernel_rfl) (by kernel_rfl) (by kernel_rfl) rfl hS0 (fun V hV => exec_loadc 29 _ rfl _ _ rfl (load_one 29 (fun _ => by kernel_rfl) V _ _ _ hV.1)) ?_
  simp only [Act.put, List.setIfInBounds_toArray, List.set_cons_succ, List.set_cons_zero]
  refine held_take 2 7 _ (.pointer (some ⟨bn, 1, none⟩)) rfl rfl (by kernel_rfl) (by kernel_rfl) (by kernel_rfl) rfl hS0 (fun _ _ => rfl) ?_
  simp only [Act.put, List.setIfInBounds_toArray, List.set_cons_succ, List.set_cons_zero]
  refine held_take 3 8 _ (.int .i64 (g : Int)) rfl rfl (by kernel_rfl) (by kernel_rfl) (by kernel_rfl) rfl hS0 (fun V hV => exec_loadc 3 _ rfl _ _ rfl (load_one 3 (fun _ => by kernel_rfl) V _ _ _ hV.2.1)) ?_
  simp only [Act.put, List.setIfInBounds_toArray, List.set_cons_succ, List.set_cons_zero]
  refine held_take 4 9 _ (.int .i64 (I : Int)) rfl rfl (by kernel_rfl) (by kernel_rfl) (by kernel_rfl) rfl hS0 (fun V hV => exec_loadc 3 _ rfl _ _ rfl (load_one 3 (fun _ => by kernel_rfl) V _ _ _ hV.2.2.1)) ?_
  simp only [Act.put, List.setIfInBounds_toArray, List.set_cons_succ, List.set_cons_zero]
  refine held_take 6 11 _ (.slice ax LB cx) rfl rfl (by kernel_rfl) (by kernel_rfl) (by kernel_rfl) rfl hS0 (fun V hV => exec_loadc 30 _ rfl _ _ rfl (load_one 30 (fun _ => by kernel_rfl) V _ _ _ hV.2.2.2)) ?_
  simp only [Act.put, List.setIfInBounds_toArray, List.set_cons_succ, List.set_cons_zero]
  refine held_all1 5 (by kernel_rfl) (op_call 5 10 _ 47 #[.pointer (some ⟨G, 0, none⟩), .int .i64 (g : Int), .int .i64 (I : Int)] rfl rfl rfl (exec_three8 47 _ _ _ _ rfl _ _ _ rfl rfl rfl Try.call47) (HSE.mono ?_))
  rintro e W1 ⟨rfl, rfl⟩
  refine ⟨_, rfl, hS0, ?_⟩
  simp only [Act.put, List.setIfInBounds_toArray, List.set_cons_succ, List.set_cons_zero]
  refine held_all1 7 (by kernel_rfl) (op_call 7 12 _ 46 #[.pointer (some ⟨G, 0, none⟩), .int .i64 (KK : Int), .slice ax LB cx] rfl rfl rfl (exec_three8 46 _ _ _ _ rfl _ _ _ rfl rfl rfl Try.call46) (HW.mono ?_))
  rintro e W2 ⟨rfl, hOw, hcw⟩
  have hS2 := HCA.out W2 (((Chg.refl CD w).drew).trans hcw (fun _ _ h => h))
  refine ⟨_, rfl, hS2, ?_⟩
  simp only [Act.put, List.setIfInBounds_toArray, List.set_cons_succ, List.set_cons_zero]
  refine held_all1 8 (by kernel_rfl) (op_value 8 4 _ (.int .i64 E) W2 rfl rfl rfl (rfl) ⟨hS2, ?_⟩)
  simp only [Act.put, List.setIfInBounds_toArray, List.set_cons_succ, List.set_cons_zero]
  refine wpAnyH_done (by kernel_rfl) ?_ _
  refine NoPanic.normal ?_
  go_wp2
  go_ret
  exact ⟨rfl, hOw, ((Chg.refl CD w).drew).trans hcw (fun _ _ h => h)⟩
set_option maxRecDepth 100000 in
set_option maxHeartbeats 2000000 in
theorem settle2_any {w : World} {G size n gen len : Nat} {bg bk : Bool} {tv : Value} {L : PLay} {CD : Nat → Prop} {s : DS} {bl bn bi bb N g M I : Nat} {x : Value} (h : LogB w G L.g size n gen len bg bk tv) (hD : OD w L CD s) (hG : ¬ CD G) (hX : Boxes w CD bl bn bi bb G N g M I x) (hN : N < 4294967296) (hg : g < 4294967296) (hM : M < 4294967296) :
    Calls Try.prog 48 #[.pointer (some ⟨bl, 0, none⟩), .pointer (some ⟨bn, 0, none⟩)] w fun e w' => e = .returned (.int .i64 (writeS s ((N % 2 : Nat) : Int) (headB N g M)).1) ∧ OD w' L (Fr CD w w') (writeS s ((N % 2 : Nat) : Int) (headB N g M)).2 ∧ Chg CD w w' := by
  have hGl : G < w.heap.size := Blk.lt h
  have HCA : Hid (∀ W : World, Chg CD w W → W.cell? ⟨bl, 0, none⟩ = some (.pointer (some ⟨G, 0, none⟩)) ∧ W.rangeAt bn 0 [.int .i64 (N : Int), .int .i64 (g : Int), .int .i64 (M : Int)] ∧ W.cell? ⟨G, 0, none⟩ = some (.pointer (some ⟨L.g, 0, none⟩))) := fun W hW => by
    have hX' := hX.chg hW (fun _ h => h)
    exact ⟨hX'.l.cell rfl, hX'.n.range 0 _ (fun j v hv => by rw [Nat.zero_add]; simpa using hv), (Blk.chg h hW hG).cell (j := 0) rfl⟩
  have hS0 := HCA.out w.drew ((Chg.refl _ _).drew)
  have hlt := hD.lt
  have HD : Hid (∀ W : World, Below w.heap.size w W → OD W L CD s) := fun W hW => hD.after hW
  clear h hD hX hG
  go_enter Try.func48, Try.ntmps48
  go_wp2_with fail
  refine held_begin (fun V => V.cell? ⟨bl, 0, none⟩ = some (.pointer (some ⟨G, 0, none⟩)) ∧ V.rangeAt bn 0 [.int .i64 (N : Int), .int .i64 (g : Int), .int .i64 (M : Int)] ∧ V.cell? ⟨G, 0, none⟩ = some (.pointer (some ⟨L.g, 0, none⟩))) (by kernel_rfl) ?_
  refine held_take 0 3 _ (.pointer (some ⟨G, 0, none⟩)) rfl rfl (by kernel_rfl) (by kernel_rfl) (by kernel_rfl) rfl hS0 (fun V hV => exec_loadc 29 _ rfl _ _ rfl (load_one 29 (fun _ => by kernel_rfl) V _ _ _ hV.1)) ?_
  simp only [Act.put, List.setIfInBounds_toArray, List.set_cons_succ, List.set_cons_zero]
  refine held_take 1 4 _ (.pointer (some ⟨G, 0, none⟩)) rfl rfl (by kernel_rfl) (by kernel_rfl) (by kernel_rfl) rfl hS0 (fun _ _ => rfl) ?_
  simp only [Act.put, List.setIfInBounds_toArray, List.set_cons_succ, List.set_cons_zero]
  refine held_take 2 5 _ (.pointer (some ⟨G, 0, none⟩)) rfl rfl (by kernel_rfl) (by kernel_rfl) (by kernel_rfl) rfl hS0 (fun _ _ => rfl) ?_
  simp only [Act.put, List.setIfInBounds_toArray, List.set_cons_succ, List.set_cons_zero]
  refine held_take 3 6 _ (.pointer (some ⟨L.g, 0, none⟩)) rfl rfl (by kernel_rfl) (by kernel_rfl) (by kernel_rfl) rfl hS0 (fun V hV => exec_loadc 25 _ rfl _ _ rfl (load_one 25 (fun _ => by kernel_rfl) V _ _ _ hV.2.2)) ?_
  simp only [Act.put, List.setIfInBounds_toArray, List.set_cons_succ, List.set_cons_zero]
  refine held_take 4 7 _ (headV N g M) rfl rfl (by kernel_rfl) (by kernel_rfl) (by kernel_rfl) rfl hS0 (fun V hV => exec_load 55 _ rfl bn 0 rfl [.int .i64 (N : Int), .int .i64 (g : Int), .int .i64 (M : Int)] _ hV.2.1 Try.underlying55 rfl Try.info55s) ?_
  simp only [Act.put, List.setIfInBounds_toArray, List.set_cons_succ, List.set_cons_zero]
  refine held_take 6 9 _ (headV N g M) rfl rfl (by kernel_rfl) (by kernel_rfl) (by kernel_rfl) rfl hS0 (fun V hV => exec_load 55 _ rfl bn 0 rfl [.int .i64 (N : Int), .int .i64 (g : Int), .int .i64 (M : Int)] _ hV.2.1 Try.underlying55 rfl Try.info55s) ?_
  simp only [Act.put, List.setIfInBounds_toArray, List.set_cons_succ, List.set_cons_zero]
  refine held_all1 5 (by kernel_rfl) (op_call 5 8 _ 50 #[headV N g M] rfl rfl rfl (exec_one 50 _ _ rfl _ rfl Try.call50) ((hsec_any N g M _).mono ?_))
  rintro e W1 ⟨rfl, hb1⟩
  have hS1 := HCA.out W1 (Chg.of_below (((Below.refl w.heap.size w).drew).trans (hb1.mono (Nat.le_refl _))) (Nat.le_refl _))
  refine ⟨_, rfl, hS1, ?_⟩
  simp only [Act.put, List.setIfInBounds_toArray, List.set_cons_succ, List.set_cons_zero]
  refine held_all1 7 (by kernel_rfl) (op_call 7 10 _ 51 #[headV N g M] rfl rfl rfl (exec_one 51 _ _ rfl _ rfl Try.call51) ((code_any N g M _ hN hg hM).mono ?_))
  rintro e W3 ⟨v10, rfl, hs10, hq10, hb10⟩
  have hbc : Below w.heap.size w W3 := (((Below.refl w.heap.size w).drew).trans (hb1.mono (Nat.le_refl _))).trans (hb10.mono (by have := hb1.size; exact this))
  have hS3 := HCA.out W3 (Chg.of_below hbc (Nat.le_refl _))
  have HW := od_write L CD s ((N % 2 : Nat) : Int) v10 (headB N g M) W3 (HD.out W3 hbc) hs10 (fun _ q hq e => by have h1 := hq10 q hq; have h2 := hlt q e; have h3 : w.heap.size ≤ W1.heap.size := hb1.size; omega)
  refine ⟨_, rfl, hS3, ?_⟩
  simp only [Act.put, List.setIfInBounds_toArray, List.set_cons_succ, List.set_cons_zero]
  refine held_all1 8 (by kernel_rfl) (op_call 8 11 _ 49 #[.pointer (some ⟨L.g, 0, none⟩), .int .i64 ((N % 2 : Nat) : Int), v10] rfl rfl rfl (exec_three8 49 _ _ _ _ rfl _ _ _ rfl rfl rfl Try.call49) (HW.mono ?_))
  rintro e W4 ⟨rfl, hOw, hcw⟩
  have hS4 := HCA.out W4 ((Chg.of_below (S := CD) hbc (Nat.le_refl _)).trans hcw (fun _ _ h => h))
  refine ⟨_, rfl, hS4, ?_⟩
  simp only [Act.put, List.setIfInBounds_toArray, List.set_cons_succ, List.set_cons_zero]
  refine held_all1 9 (by kernel_rfl) (op_value 9 2 _ (.int .i64 (writeS s ((N % 2 : Nat) : Int) (headB N g M)).1) W4 rfl rfl rfl (rfl) ⟨hS4, ?_⟩)
  simp only [Act.put, List.setIfInBounds_toArray, List.set_cons_succ, List.set_cons_zero]
  refine wpAnyH_done (by kernel_rfl) ?_ _
  refine NoPanic.normal ?_
  go_wp2
  go_ret
  exact ⟨rfl, hOw.mono (fun q hq => (by rcases hq with h | h; exact .inl h; exact .inr ⟨by have := hbc.size; omega, h.2⟩)) (fun q hq => by rcases hq with h | h; exact Nat.lt_of_lt_of_le (Nat.lt_of_lt_of_le (hlt q h) hbc.size) hcw.size; exact h.2), (Chg.of_below (S := CD) hbc (Nat.le_refl _)).trans hcw (fun _ _ h => h)⟩
end Go.Proofs.Ytcfnbmphonkbpaa
