/-
  What is proved here: the program's log: bytes are written sector by sector.
  Conditions: the disk and the log lie in memory.
-/
import Derived.Test.YtcfnbmphonkbpaaPWalOpen
import Derived.Test.YtcfnbmphonkbpaaHeldMore
namespace Go.Proofs.Ytcfnbmphonkbpaa
open Go.RowKit

theorem fr_trans {C : Nat → Prop} {w w1 w2 : World} (h1 : w.heap.size ≤ w1.heap.size) (h2 : w1.heap.size ≤ w2.heap.size) (q : Nat) (h : Fr (Fr C w w1) w1 w2 q) : Fr C w w2 q := by
  rcases h with (h | ⟨h3, h4⟩) | ⟨h3, h4⟩
  · exact .inl h
  · exact .inr ⟨h3, by omega⟩
  · exact .inr ⟨by omega, h4⟩
theorem Chg.fr {C : Nat → Prop} {w w1 w2 : World} (h1 : Chg C w w1) (h2 : Chg (Fr C w w1) w1 w2) : Chg C w w2 :=
  h1.trans h2 (fun k hk h => by rcases h with h | ⟨h3, _⟩; exact h; omega)
theorem OD.fr {C : Nat → Prop} {w w1 w2 : World} {L : PLay} {s : DS} (h : OD w2 L (Fr (Fr C w w1) w1 w2) s) (h1 : w.heap.size ≤ w1.heap.size) (h2 : w1.heap.size ≤ w2.heap.size) (hC : ∀ q, C q → q < w.heap.size) : OD w2 L (Fr C w w2) s :=
  h.mono (fr_trans h1 h2) (fun q hq => by rcases hq with hq | hq; have := hC q hq; omega; exact hq.2)
theorem rowsW_more (first : Nat) (b : List UInt8) : ∀ (n m i : Nat) (s : DS), b.length ≤ (i + n) * 128 → b.length ≤ (i + m) * 128 → rowsW first b n i s = rowsW first b m i s
  | 0, 0, _, _, _, _ => rfl
  | 0, m + 1, i, s, h, _ => by
    show (0, s) = if b.length ≤ i * 128 then (0, s) else _
    rw [if_pos (by omega)]
  | n + 1, 0, i, s, _, h => by
    show (if b.length ≤ i * 128 then (0, s) else _) = (0, s)
    rw [if_pos (by omega)]
  | n + 1, m + 1, i, s, h1, h2 => by
    show (if b.length ≤ i * 128 then (0, s) else if (writeS s ((first + i : Nat) : Int) (rowB b i)).1 ≠ 0 then writeS s ((first + i : Nat) : Int) (rowB b i) else rowsW first b n (i + 1) (writeS s ((first + i : Nat) : Int) (rowB b i)).2) = if b.length ≤ i * 128 then (0, s) else if (writeS s ((first + i : Nat) : Int) (rowB b i)).1 ≠ 0 then writeS s ((first + i : Nat) : Int) (rowB b i) else rowsW first b m (i + 1) (writeS s ((first + i : Nat) : Int) (rowB b i)).2
    rw [rowsW_more first b n m (i + 1) _ (by omega) (by omega)]
theorem rowsW_unfold (first : Nat) (b : List UInt8) (F i : Nat) (s : DS) (h : b.length ≤ (i + F) * 128) (h2 : i * 128 < b.length) : rowsW first b F i s = if (writeS s ((first + i : Nat) : Int) (rowB b i)).1 ≠ 0 then writeS s ((first + i : Nat) : Int) (rowB b i) else rowsW first b F (i + 1) (writeS s ((first + i : Nat) : Int) (rowB b i)).2 := by
  obtain ⟨F', rfl⟩ : ∃ F', F = F' + 1 := ⟨F - 1, by omega⟩
  have e : rowsW first b (F' + 1) i s = if b.length ≤ i * 128 then (0, s) else if (writeS s ((first + i : Nat) : Int) (rowB b i)).1 ≠ 0 then writeS s ((first + i : Nat) : Int) (rowB b i) else rowsW first b F' (i + 1) (writeS s ((first + i : Nat) : Int) (rowB b i)).2 := rfl
  rw [e, if_neg (by omega), rowsW_more first b F' (F' + 1) (i + 1) _ (by omega) (by omega)]
theorem rowsW_end (first : Nat) (b : List UInt8) (F i : Nat) (s : DS) (h2 : b.length ≤ i * 128) : rowsW first b F i s = (0, s) := by
  cases F with
  | zero => rfl
  | succ F => show (if b.length ≤ i * 128 then (0, s) else _) = _; rw [if_pos h2]
theorem writeS_now (s : DS) (k : Int) (b : List UInt8) : (writeS s k b).2.now.length = s.now.length := by
  have hm : (mayS s).2.now = s.now := by
    unfold mayS
    split
    · rfl
    · split
      · rfl
      · split
        · rfl
        · split <;> rfl
  unfold writeS
  split
  · rfl
  · split
    · rw [hm]
    · show ((mayS s).2.now.set _ _).length = _
      rw [List.length_set, hm]
set_option maxRecDepth 100000 in
set_option maxHeartbeats 2000000 in
theorem writeSec_any {w : World} {G size n gen len : Nat} {bg bk : Bool} {tv : Value} {L : PLay} {CD : Nat → Prop} {s : DS} (h : LogB w G L.g size n gen len bg bk tv) (hD : OD w L CD s) (hG : ¬ CD G) (first I0 : Nat) (hI0 : first + I0 ≤ 100000) (x : Value) (b : List UInt8) (hb : b.length ≤ 1000000) (hx : SegA w CD x (b.drop (I0 * 128))) (F : Nat) (hF : b.length ≤ (I0 + F) * 128) :
    Calls Try.prog 46 #[.pointer (some ⟨G, 0, none⟩), .int .i64 ((first + I0 : Nat) : Int), x] w fun e w' => e = .returned (.int .i64 (rowsW first b F I0 s).1) ∧ OD w' L (Fr CD w w') (rowsW first b F I0 s).2 ∧ Chg CD w w' := by
  have hGl : G < w.heap.size := Blk.lt h
  have HC : Hid (∀ W : World, Chg CD w W → W.cell? ⟨G, 0, none⟩ = some (.pointer (some ⟨L.g, 0, none⟩))) := fun W hW => (Blk.chg h hW hG).cell (j := 0) rfl
  obtain ⟨R, hR⟩ : ∃ R, R = rowsW first b F I0 s := ⟨_, rfl⟩
  rw [← hR]
  have HR0 : Hid (R = rowsW first b F I0 s) := hR
  clear hR
  obtain ⟨ax, cx, rfl⟩ := Seg.shapeD hx.1
  have hOD0 : OD w L (Fr CD w w) s := hD.mono (fun q hq => .inl hq) (fun q hq => by rcases hq with hq | hq; exact hD.lt q hq; omega)
  have hlt := hD.lt
  clear h hD
  go_enter Try.func46, Try.ntmps46
  go_wp2_with fail
  go_loopw [1, 2] (fun kv bv wr => ∃ (J : Nat) (t : DS) (a : Option Addr) (c : Nat), kv = .int .i64 ((first + J : Nat) : Int) ∧ bv = .slice a (b.drop (J * 128)).length c ∧ I0 ≤ J ∧ (J = I0 ∨ J * 128 < b.length + 128) ∧ SegA w CD (.slice a (b.drop (J * 128)).length c) (b.drop (J * 128)) ∧ R = rowsW first b F J t ∧ b.length ≤ (J + F) * 128 ∧ OD wr L (Fr CD w wr) t ∧ Chg CD w wr) (fun _ bv _ => lenOf8 bv)
  case atStart => exact ⟨I0, s, ax, cx, rfl, rfl, Nat.le_refl _, .inl rfl, hx, HR0.out, hF, hOD0, Chg.refl _ _⟩
  case round =>
    obtain ⟨J, t, a, c, rfl, rfl, hJ, hJ2, hs, hRJ, hFJ, hO, hc⟩ := hrel
    clear hOD0 HR0
    have hl1 : (b.drop (J * 128)).length = b.length - J * 128 := List.length_drop ..
    by_cases hlt2 : J * 128 < b.length
    · have hun := rowsW_unfold first b F J t hFJ hlt2
      rw [← hRJ] at hun
      have hrow : (b.drop (J * 128)).take 128 = rowB b J := rfl
      have hdr : (b.drop (J * 128)).drop 128 = b.drop ((J + 1) * 128) := by rw [List.drop_drop]; congr 1; omega
      obtain ⟨rest, hrest⟩ : ∃ rest, rest = b.drop (J * 128) := ⟨_, rfl⟩
      rw [← hrest] at hs hl1 hrow hdr ⊢
      have j0 : (0 : Int) < (rest.length : Int) := by omega
      obtain ⟨NN, hNN⟩ : ∃ NN, NN = min rest.length 128 := ⟨_, rfl⟩
      have hmin : min (rest.length : Int) 128 = (NN : Int) := by omega
      have htk := hs.takes7 NN (by omega) rfl
      have hbt : rest.take NN = rowB b J := by
        rw [← hrow]
        by_cases h8 : 128 ≤ rest.length
        · rw [show NN = 128 by omega]
        · rw [List.take_of_length_le (by omega), List.take_of_length_le (by omega)]
      have hbd : rest.drop NN = b.drop ((J + 1) * 128) := by
        rw [← hdr]
        by_cases h8 : 128 ≤ rest.length
        · rw [show NN = 128 by omega]
        · rw [List.drop_of_length_le (by omega), List.drop_of_length_le (by omega)]
      have hdp := hs.drops7 NN (by omega) rfl
      have l1 := slice_toD a rest.length c NN htk.2
      have l2 := slice_restD a rest.length c NN (by omega)
      have hln : rest.length - NN = (b.drop ((J + 1) * 128)).length := by rw [← hbd, List.length_drop]
      rw [hbt] at htk
      rw [hbd] at hdp
      rw [hln] at hdp l2
      have hsw : Seg wr.drew (.slice a NN c) (rowB b J) := htk.1.1.chg hc.drew htk.1.2
      have HW := od_write L (Fr CD w wr) t ((first + J : Nat) : Int) (.slice a NN c) (rowB b J) wr.drew (hO.after ((Below.refl _ _).drew)) hsw (fun h0 q hq e => by
        rcases e with e | e
        · exact htk.1.2 h0 q hq e
        · have : q < w.heap.size := by
            rcases htk.1.1 with ⟨e0, _⟩ | ⟨b', off', c', e0, _, _, hb'⟩
            · rw [e0] at h0; cases h0
            · rw [e0] at hq
              obtain rfl : b' = q := Option.some.inj hq
              exact hb'
          omega)
      have hS0 := HC.out wr.drew hc.drew
      have HSC : Hid (∀ W : World, Chg (Fr CD w wr) wr.drew W → W.cell? ⟨G, 0, none⟩ = some (.pointer (some ⟨L.g, 0, none⟩))) := fun W hW => HC.out W (hc.drew.trans hW (fun k hk e => by rcases e with e | e; exact e; omega))
      have hlen2 : (b.drop ((J + 1) * 128)).length < rest.length := by rw [List.length_drop]; omega
      have hJ3 : (J + 1) * 128 < b.length + 128 := by omega
      have HUN : Hid _ := hun
      have HFJ : Hid (b.length ≤ (J + F) * 128) := hFJ
      have HJ3 : Hid ((J + 1) * 128 < b.length + 128 ∧ I0 ≤ J) := ⟨hJ3, hJ⟩
      have hKK : first + J ≤ 200000 := by rcases hJ2 with h | h <;> omega
      have HRI : Hid (∀ X : Int × DS, writeS t ((first + J : Nat) : Int) (rowB b J) = X → R = if X.1 ≠ 0 then X else rowsW first b F (J + 1) X.2) := fun X hX => by rw [← hX]; exact HUN.out
      clear hun HUN hFJ hJ3 hJ hJ2 hrow hdr hln hbt hbd hrest hlt2 hl1 hNN
      generalize writeS t ((first + J : Nat) : Int) (rowB b J) = Y at *
      obtain ⟨E, t2⟩ := Y
      have HR2 := HRI.out (E, t2) rfl
      dsimp only at HW HR2
      clear HRI
      obtain ⟨RD, hRD⟩ : ∃ RD, b.drop ((J + 1) * 128) = RD := ⟨_, rfl⟩
      rw [hRD] at hdp l2 hlen2
      have HRD : Hid (b.drop ((J + 1) * 128) = RD) := hRD
      clear hRD
      generalize restD a c NN = ra at *
      generalize c - NN = ca at *
      have HKN : Hid (((first + (J + 1) : Nat) : Int) = ((first + J : Nat) : Int) + 1) := by show _ = _; omega
      generalize first + J = KK at *
      go_wp2_with fail
      refine held_begin (fun V => V.cell? ⟨G, 0, none⟩ = some (.pointer (some ⟨L.g, 0, none⟩))) (by kernel_rfl) ?_
      refine held_take 0 17 _ (.pointer (some ⟨G, 0, none⟩)) rfl rfl (by kernel_rfl) (by kernel_rfl) (by kernel_rfl) rfl hS0 (fun _ _ => rfl) ?_
      simp only [Act.put, List.setIfInBounds_toArray, List.set_cons_succ, List.set_cons_zero]
      refine held_take 1 18 _ (.pointer (some ⟨G, 0, none⟩)) rfl rfl (by kernel_rfl) (by kernel_rfl) (by kernel_rfl) rfl hS0 (fun _ _ => rfl) ?_
      simp only [Act.put, List.setIfInBounds_toArray, List.set_cons_succ, List.set_cons_zero]
      refine held_take 2 19 _ (.pointer (some ⟨G, 0, none⟩)) rfl rfl (by kernel_rfl) (by kernel_rfl) (by kernel_rfl) rfl hS0 (fun _ _ => rfl) ?_
      simp only [Act.put, List.setIfInBounds_toArray, List.set_cons_succ, List.set_cons_zero]
      refine held_take 3 20 _ (.pointer (some ⟨L.g, 0, none⟩)) rfl rfl (by kernel_rfl) (by kernel_rfl) (by kernel_rfl) rfl hS0 (fun V hV => exec_loadc 25 _ rfl _ _ rfl (load_one 25 (fun _ => by kernel_rfl) V _ _ _ hV)) ?_
      simp only [Act.put, List.setIfInBounds_toArray, List.set_cons_succ, List.set_cons_zero]
      refine held_take 4 21 _ (.int .i64 (KK : Int)) rfl rfl (by kernel_rfl) (by kernel_rfl) (by kernel_rfl) rfl hS0 (fun _ _ => rfl) ?_
      simp only [Act.put, List.setIfInBounds_toArray, List.set_cons_succ, List.set_cons_zero]
      refine held_take 5 22 _ (.slice a rest.length c) rfl rfl (by kernel_rfl) (by kernel_rfl) (by kernel_rfl) rfl hS0 (fun _ _ => rfl) ?_
      simp only [Act.put, List.setIfInBounds_toArray, List.set_cons_succ, List.set_cons_zero]
      refine held_take 6 23 _ (.int .i64 (NN : Int)) rfl rfl (by kernel_rfl) (by kernel_rfl) (by kernel_rfl) rfl hS0 (fun _ _ => rfl) ?_
      simp only [Act.put, List.setIfInBounds_toArray, List.set_cons_succ, List.set_cons_zero]
      refine held_take 7 24 _ (.slice a NN c) rfl rfl (by kernel_rfl) (by kernel_rfl) (by kernel_rfl) rfl hS0 (fun V _ => exec_slice7 _ _ _ _ rfl (.slice a rest.length c) _ none (some (.int .i64 (NN : Int))) none rfl rfl rfl rfl (l1 V)) ?_
      simp only [Act.put, List.setIfInBounds_toArray, List.set_cons_succ, List.set_cons_zero]
      refine held_all1 8 (by kernel_rfl) (op_call 8 25 _ 49 #[.pointer (some ⟨L.g, 0, none⟩), .int .i64 (KK : Int), .slice a NN c] rfl rfl rfl (exec_three8 49 _ _ _ _ rfl _ _ _ rfl rfl rfl Try.call49) (HW.mono ?_))
      rintro e W2 ⟨rfl, hOw, hcw⟩
      have hS2 := HSC.out W2 hcw
      refine ⟨_, rfl, hS2, ?_⟩
      simp only [Act.put, List.setIfInBounds_toArray, List.set_cons_succ, List.set_cons_zero]
      refine held_all1 9 (by kernel_rfl) (op_value 9 8 _ (.int .i64 E) W2 rfl rfl rfl (rfl) ⟨hS2, ?_⟩)
      simp only [Act.put, List.setIfInBounds_toArray, List.set_cons_succ, List.set_cons_zero]
      refine wpAnyH_done (by kernel_rfl) ?_ _
      refine NoPanic.normal ?_
      have hc2 : Chg CD w W2 := hc.fr (hcw.trans (S := Fr CD w wr) (Chg.refl _ _) (fun _ _ h => h) |> fun h => ((Chg.refl _ wr).drew).trans h (fun _ _ h => h))
      have hO2 : OD W2 L (Fr CD w W2) t2 := OD.fr (h := hOw) hc.size hcw.size hlt
      by_cases hE : E = 0
      · have b1 : (E != 0) = false := by rw [hE]; rfl
        rw [if_neg (fun h => h hE)] at HR2
        have HR3 : Hid _ := HR2
        clear HR2 hE
        go_wp2_with fail
        go_roundw
        case rel => exact ⟨J + 1, t2, ra, ca, by rw [HKN.out], by rw [HRD.out], by have := HJ3.out; omega, .inr HJ3.out.1, by rw [HRD.out]; exact hdp, HR3.out, by have := HFJ.out; omega, hO2, hc2⟩
        case measure => simp only [lenOf8]; exact hlen2
      · have b1 : (E != 0) = true := by simp [hE]
        rw [if_pos hE] at HR2
        have HR3 : Hid _ := HR2
        clear HR2 hE
        go_wp2_with fail
        go_ret
        rw [HR3.out]
        exact ⟨rfl, hO2, hc2⟩
    · have j0 : ¬ (0 : Int) < (((b.drop (J * 128)).length : Nat) : Int) := by omega
      have HE : Hid (R = (0, t)) := by show _ = _; rw [hRJ]; exact rowsW_end first b F J t (by omega)
      clear hRJ hFJ hJ2 hl1
      go_wp2_with fail
      go_ret
      rw [HE.out]
      exact ⟨rfl, hO, hc⟩
end Go.Proofs.Ytcfnbmphonkbpaa
