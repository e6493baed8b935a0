/-
  What is proved here: the program's log: writing, Append, Commit, Checkpoint. the program's log and its disk, whose blocks all lie from a bound on: what they do keeps what lies below it. rows of bytes that came in, and what the calm log does with them. more of the calm log: what is refused changes nothing; what stands is opened.
  Conditions: the disk and the log lie in memory. those that each fact names.
-/
import Derived.Test.YtbegphfideopoaaGreatJPWalRows
import Derived.Test.YtbegphfideopoaaGreatJPWalLog
import Derived.Deep.Cut
import Derived.Deep.DeepCutAuto
namespace Go.Proofs.YtbegphfideopoaaGreat
open Go.RowKit

theorem fr_trans {C : Nat → Prop} {w w1 w2 : World} (h1 : w.heap.size ≤ w1.heap.size) (h2 : w1.heap.size ≤ w2.heap.size) (q : Nat) (h : Fr (Fr C w w1) w1 w2 q) : Fr C w w2 q := by
  rcases h with (h | ⟨h3, h4⟩) | ⟨h3, h4⟩
  · exact .inl h
  · exact .inr ⟨h3, by omega⟩
  · exact .inr ⟨by omega, h4⟩
theorem Chg.fr {C : Nat → Prop} {w w1 w2 : World} (h1 : Chg C w w1) (h2 : Chg (Fr C w w1) w1 w2) : Chg C w w2 :=
  h1.trans h2 (fun k hk h => by rcases h with h | ⟨h3, _⟩; exact h; omega)
theorem OD.fr {C : Nat → Prop} {w w1 w2 : World} {L : PLay} {s : DS} (h : OD w2 L (Fr (Fr C w w1) w1 w2) s) (h1 : w.heap.size ≤ w1.heap.size) (h2 : w1.heap.size ≤ w2.heap.size) (hC : ∀ q, C q → q < w.heap.size) : OD w2 L (Fr C w w2) s :=
  h.mono (fr_trans h1 h2) (fun q hq => by rcases hq with hq | hq; have := hC q hq; omega; exact hq.2)
theorem rowsW_more (first : Nat) (b : List UInt8) : ∀ (n m i : Nat) (s : DS), b.length ≤ (i + n) * 128 → b.length ≤ (i + m) * 128 → rowsW first b n i s = rowsW first b m i s
  | 0, 0, _, _, _, _ => rfl
  | 0, m + 1, i, s, h, _ => by
    show (0, s) = if b.length ≤ i * 128 then (0, s) else _
    rw [if_pos (by omega)]
  | n + 1, 0, i, s, _, h => by
    show (if b.length ≤ i * 128 then (0, s) else _) = (0, s)
    rw [if_pos (by omega)]
  | n + 1, m + 1, i, s, h1, h2 => by
    show (if b.length ≤ i * 128 then (0, s) else if (writeS s ((first + i : Nat) : Int) (rowB b i)).1 ≠ 0 then writeS s ((first + i : Nat) : Int) (rowB b i) else rowsW first b n (i + 1) (writeS s ((first + i : Nat) : Int) (rowB b i)).2) = if b.length ≤ i * 128 then (0, s) else if (writeS s ((first + i : Nat) : Int) (rowB b i)).1 ≠ 0 then writeS s ((first + i : Nat) : Int) (rowB b i) else rowsW first b m (i + 1) (writeS s ((first + i : Nat) : Int) (rowB b i)).2
    rw [rowsW_more first b n m (i + 1) _ (by omega) (by omega)]
theorem rowsW_unfold (first : Nat) (b : List UInt8) (F i : Nat) (s : DS) (h : b.length ≤ (i + F) * 128) (h2 : i * 128 < b.length) : rowsW first b F i s = if (writeS s ((first + i : Nat) : Int) (rowB b i)).1 ≠ 0 then writeS s ((first + i : Nat) : Int) (rowB b i) else rowsW first b F (i + 1) (writeS s ((first + i : Nat) : Int) (rowB b i)).2 := by
  obtain ⟨F', rfl⟩ : ∃ F', F = F' + 1 := ⟨F - 1, by omega⟩
  have e : rowsW first b (F' + 1) i s = if b.length ≤ i * 128 then (0, s) else if (writeS s ((first + i : Nat) : Int) (rowB b i)).1 ≠ 0 then writeS s ((first + i : Nat) : Int) (rowB b i) else rowsW first b F' (i + 1) (writeS s ((first + i : Nat) : Int) (rowB b i)).2 := rfl
  rw [e, if_neg (by omega), rowsW_more first b F' (F' + 1) (i + 1) _ (by omega) (by omega)]
theorem rowsW_end (first : Nat) (b : List UInt8) (F i : Nat) (s : DS) (h2 : b.length ≤ i * 128) : rowsW first b F i s = (0, s) := by
  cases F with
  | zero => rfl
  | succ F => show (if b.length ≤ i * 128 then (0, s) else _) = _; rw [if_pos h2]
theorem writeS_now (s : DS) (k : Int) (b : List UInt8) : (writeS s k b).2.now.length = s.now.length := by
  have hm : (mayS s).2.now = s.now := by
    unfold mayS
    split
    · rfl
    · split
      · rfl
      · split
        · rfl
        · split <;> rfl
  unfold writeS
  split
  · rfl
  · split
    · rw [hm]
    · show ((mayS s).2.now.set _ _).length = _
      rw [List.length_set, hm]
set_option maxRecDepth 100000 in
set_option maxHeartbeats 2000000 in
theorem writeSec_any {w : World} {G size n gen len : Nat} {bg bk : Bool} {tv : Value} {L : PLay} {CD : Nat → Prop} {s : DS} (h : LogB w G L.g size n gen len bg bk tv) (hD : OD w L CD s) (hG : ¬ CD G) (first I0 : Nat) (hI0 : first + I0 ≤ 100000) (x : Value) (b : List UInt8) (hb : b.length ≤ 1000000) (hx : SegA w CD x (b.drop (I0 * 128))) (F : Nat) (hF : b.length ≤ (I0 + F) * 128) :
    Calls Tryz.prog 81 #[.pointer (some ⟨G, 0, none⟩), .int .i64 ((first + I0 : Nat) : Int), x] w fun e w' => e = .returned (.int .i64 (rowsW first b F I0 s).1) ∧ OD w' L (Fr CD w w') (rowsW first b F I0 s).2 ∧ Chg CD w w' := by
  have hGl : G < w.heap.size := Blk.lt h
  have HC : Hid (∀ W : World, Chg CD w W → W.cell? ⟨G, 0, none⟩ = some (.pointer (some ⟨L.g, 0, none⟩))) := fun W hW => (Blk.chg h hW hG).cell (j := 0) rfl
  obtain ⟨R, hR⟩ : ∃ R, R = rowsW first b F I0 s := ⟨_, rfl⟩
  rw [← hR]
  have HR0 : Hid (R = rowsW first b F I0 s) := hR
  clear hR
  obtain ⟨ax, cx, rfl⟩ := Seg.shapeD hx.1
  have hOD0 : OD w L (Fr CD w w) s := hD.mono (fun q hq => .inl hq) (fun q hq => by rcases hq with hq | hq; exact hD.lt q hq; omega)
  have hlt := hD.lt
  clear h hD
  go_enter Tryz.func81, Tryz.ntmps81
  go_wp2_with fail
  go_loopw [1, 2] (fun kv bv wr => ∃ (J : Nat) (t : DS) (a : Option Addr) (c : Nat), kv = .int .i64 ((first + J : Nat) : Int) ∧ bv = .slice a (b.drop (J * 128)).length c ∧ I0 ≤ J ∧ (J = I0 ∨ J * 128 < b.length + 128) ∧ SegA w CD (.slice a (b.drop (J * 128)).length c) (b.drop (J * 128)) ∧ R = rowsW first b F J t ∧ b.length ≤ (J + F) * 128 ∧ OD wr L (Fr CD w wr) t ∧ Chg CD w wr) (fun _ bv _ => lenOf8 bv)
  case atStart => exact ⟨I0, s, ax, cx, rfl, rfl, Nat.le_refl _, .inl rfl, hx, HR0.out, hF, hOD0, Chg.refl _ _⟩
  case round =>
    obtain ⟨J, t, a, c, rfl, rfl, hJ, hJ2, hs, hRJ, hFJ, hO, hc⟩ := hrel
    clear hOD0 HR0
    have hl1 : (b.drop (J * 128)).length = b.length - J * 128 := List.length_drop ..
    by_cases hlt2 : J * 128 < b.length
    · have hun := rowsW_unfold first b F J t hFJ hlt2
      rw [← hRJ] at hun
      have hrow : (b.drop (J * 128)).take 128 = rowB b J := rfl
      have hdr : (b.drop (J * 128)).drop 128 = b.drop ((J + 1) * 128) := by rw [List.drop_drop]; congr 1; omega
      obtain ⟨rest, hrest⟩ : ∃ rest, rest = b.drop (J * 128) := ⟨_, rfl⟩
      rw [← hrest] at hs hl1 hrow hdr ⊢
      have j0 : (0 : Int) < (rest.length : Int) := by omega
      obtain ⟨NN, hNN⟩ : ∃ NN, NN = min rest.length 128 := ⟨_, rfl⟩
      have hmin : min (rest.length : Int) 128 = (NN : Int) := by omega
      have htk := hs.takes7 NN (by omega) rfl
      have hbt : rest.take NN = rowB b J := by
        rw [← hrow]
        by_cases h8 : 128 ≤ rest.length
        · rw [show NN = 128 by omega]
        · rw [List.take_of_length_le (by omega), List.take_of_length_le (by omega)]
      have hbd : rest.drop NN = b.drop ((J + 1) * 128) := by
        rw [← hdr]
        by_cases h8 : 128 ≤ rest.length
        · rw [show NN = 128 by omega]
        · rw [List.drop_of_length_le (by omega), List.drop_of_length_le (by omega)]
      have hdp := hs.drops7 NN (by omega) rfl
      have l1 := slice_toD a rest.length c NN htk.2
      have l2 := slice_restD a rest.length c NN (by omega)
      have hln : rest.length - NN = (b.drop ((J + 1) * 128)).length := by rw [← hbd, List.length_drop]
      rw [hbt] at htk
      rw [hbd] at hdp
      rw [hln] at hdp l2
      have hsw : Seg wr.drew (.slice a NN c) (rowB b J) := htk.1.1.chg hc.drew htk.1.2
      have HW := od_write L (Fr CD w wr) t ((first + J : Nat) : Int) (.slice a NN c) (rowB b J) wr.drew (hO.after ((Below.refl _ _).drew)) hsw (fun h0 q hq e => by
        rcases e with e | e
        · exact htk.1.2 h0 q hq e
        · have : q < w.heap.size := by
            rcases htk.1.1 with ⟨e0, _⟩ | ⟨b', off', c', e0, _, _, hb'⟩
            · rw [e0] at h0; cases h0
            · rw [e0] at hq
              obtain rfl : b' = q := Option.some.inj hq
              exact hb'
          omega)
      have hS0 := HC.out wr.drew hc.drew
      have HSC : Hid (∀ W : World, Chg (Fr CD w wr) wr.drew W → W.cell? ⟨G, 0, none⟩ = some (.pointer (some ⟨L.g, 0, none⟩))) := fun W hW => HC.out W (hc.drew.trans hW (fun k hk e => by rcases e with e | e; exact e; omega))
      have hlen2 : (b.drop ((J + 1) * 128)).length < rest.length := by rw [List.length_drop]; omega
      have hJ3 : (J + 1) * 128 < b.length + 128 := by omega
      have HUN : Hid _ := hun
      have HFJ : Hid (b.length ≤ (J + F) * 128) := hFJ
      have HJ3 : Hid ((J + 1) * 128 < b.length + 128 ∧ I0 ≤ J) := ⟨hJ3, hJ⟩
      have hKK : first + J ≤ 200000 := by rcases hJ2 with h | h <;> omega
      have HRI : Hid (∀ X : Int × DS, writeS t ((first + J : Nat) : Int) (rowB b J) = X → R = if X.1 ≠ 0 then X else rowsW first b F (J + 1) X.2) := fun X hX => by rw [← hX]; exact HUN.out
      clear hun HUN hFJ hJ3 hJ hJ2 hrow hdr hln hbt hbd hrest hlt2 hl1 hNN
      generalize writeS t ((first + J : Nat) : Int) (rowB b J) = Y at *
      obtain ⟨E, t2⟩ := Y
      have HR2 := HRI.out (E, t2) rfl
      dsimp only at HW HR2
      clear HRI
      obtain ⟨RD, hRD⟩ : ∃ RD, b.drop ((J + 1) * 128) = RD := ⟨_, rfl⟩
      rw [hRD] at hdp l2 hlen2
      have HRD : Hid (b.drop ((J + 1) * 128) = RD) := hRD
      clear hRD
      generalize restD a c NN = ra at *
      generalize c - NN = ca at *
      have HKN : Hid (((first + (J + 1) : Nat) : Int) = ((first + J : Nat) : Int) + 1) := by show _ = _; omega
      generalize first + J = KK at *
      go_wp2_with fail
      refine held_begin (fun V => V.cell? ⟨G, 0, none⟩ = some (.pointer (some ⟨L.g, 0, none⟩))) (by kernel_rfl) ?_
      refine held_take 0 17 _ (.pointer (some ⟨G, 0, none⟩)) rfl rfl (by kernel_rfl) (by kernel_rfl) (by kernel_rfl) rfl hS0 (fun _ _ => rfl) ?_
      simp only [Act.put, List.setIfInBounds_toArray, List.set_cons_succ, List.set_cons_zero]
      refine held_take 1 18 _ (.pointer (some ⟨G, 0, none⟩)) rfl rfl (by kernel_rfl) (by kernel_rfl) (by kernel_rfl) rfl hS0 (fun _ _ => rfl) ?_
      simp only [Act.put, List.setIfInBounds_toArray, List.set_cons_succ, List.set_cons_zero]
      refine held_take 2 19 _ (.pointer (some ⟨G, 0, none⟩)) rfl rfl (by kernel_rfl) (by kernel_rfl) (by kernel_rfl) rfl hS0 (fun _ _ => rfl) ?_
      simp only [Act.put, List.setIfInBounds_toArray, List.set_cons_succ, List.set_cons_zero]
      refine held_take 3 20 _ (.pointer (some ⟨L.g, 0, none⟩)) rfl rfl (by kernel_rfl) (by kernel_rfl) (by kernel_rfl) rfl hS0 (fun V hV => exec_loadc 25 _ rfl _ _ rfl (load_one 25 (fun _ => by kernel_rfl) V _ _ _ hV)) ?_
      simp only [Act.put, List.setIfInBounds_toArray, List.set_cons_succ, List.set_cons_zero]
      refine held_take 4 21 _ (.int .i64 (KK : Int)) rfl rfl (by kernel_rfl) (by kernel_rfl) (by kernel_rfl) rfl hS0 (fun _ _ => rfl) ?_
      simp only [Act.put, List.setIfInBounds_toArray, List.set_cons_succ, List.set_cons_zero]
      refine held_take 5 22 _ (.slice a rest.length c) rfl rfl (by kernel_rfl) (by kernel_rfl) (by kernel_rfl) rfl hS0 (fun _ _ => rfl) ?_
      simp only [Act.put, List.setIfInBounds_toArray, List.set_cons_succ, List.set_cons_zero]
      refine held_take 6 23 _ (.int .i64 (NN : Int)) rfl rfl (by kernel_rfl) (by kernel_rfl) (by kernel_rfl) rfl hS0 (fun _ _ => rfl) ?_
      simp only [Act.put, List.setIfInBounds_toArray, List.set_cons_succ, List.set_cons_zero]
      refine held_take 7 24 _ (.slice a NN c) rfl rfl (by kernel_rfl) (by kernel_rfl) (by kernel_rfl) rfl hS0 (fun V _ => exec_slice7 _ _ _ _ rfl (.slice a rest.length c) _ none (some (.int .i64 (NN : Int))) none rfl rfl rfl rfl (l1 V)) ?_
      simp only [Act.put, List.setIfInBounds_toArray, List.set_cons_succ, List.set_cons_zero]
      refine held_all1 8 (by kernel_rfl) (op_call 8 25 _ 84 #[.pointer (some ⟨L.g, 0, none⟩), .int .i64 (KK : Int), .slice a NN c] rfl rfl rfl (exec_three8 84 _ _ _ _ rfl _ _ _ rfl rfl rfl Tryz.call84) (HW.mono ?_))
      rintro e W2 ⟨rfl, hOw, hcw⟩
      have hS2 := HSC.out W2 hcw
      refine ⟨_, rfl, hS2, ?_⟩
      simp only [Act.put, List.setIfInBounds_toArray, List.set_cons_succ, List.set_cons_zero]
      refine held_all1 9 (by kernel_rfl) (op_value 9 8 _ (.int .i64 E) W2 rfl rfl rfl (rfl) ⟨hS2, ?_⟩)
      simp only [Act.put, List.setIfInBounds_toArray, List.set_cons_succ, List.set_cons_zero]
      refine wpAnyH_done (by kernel_rfl) ?_ _
      refine NoPanic.normal ?_
      have hc2 : Chg CD w W2 := hc.fr (hcw.trans (S := Fr CD w wr) (Chg.refl _ _) (fun _ _ h => h) |> fun h => ((Chg.refl _ wr).drew).trans h (fun _ _ h => h))
      have hO2 : OD W2 L (Fr CD w W2) t2 := OD.fr (h := hOw) hc.size hcw.size hlt
      by_cases hE : E = 0
      · have b1 : (E != 0) = false := by rw [hE]; rfl
        rw [if_neg (fun h => h hE)] at HR2
        have HR3 : Hid _ := HR2
        clear HR2 hE
        go_wp2_with fail
        go_roundw
        case rel => exact ⟨J + 1, t2, ra, ca, by rw [HKN.out], by rw [HRD.out], by have := HJ3.out; omega, .inr HJ3.out.1, by rw [HRD.out]; exact hdp, HR3.out, by have := HFJ.out; omega, hO2, hc2⟩
        case measure => simp only [lenOf8]; exact hlen2
      · have b1 : (E != 0) = true := by simp [hE]
        rw [if_pos hE] at HR2
        have HR3 : Hid _ := HR2
        clear HR2 hE
        go_wp2_with fail
        go_ret
        rw [HR3.out]
        exact ⟨rfl, hO2, hc2⟩
    · have j0 : ¬ (0 : Int) < (((b.drop (J * 128)).length : Nat) : Int) := by omega
      have HE : Hid (R = (0, t)) := by show _ = _; rw [hRJ]; exact rowsW_end first b F J t (by omega)
      clear hRJ hFJ hJ2 hl1
      go_wp2_with fail
      go_ret
      rw [HE.out]
      exact ⟨rfl, hO, hc⟩
end Go.Proofs.YtbegphfideopoaaGreat
namespace Go.Proofs.YtbegphfideopoaaGreat
open Go.RowKit

/-- What a change has at hand: the log, the next head, from which sector on, the bytes. -/
structure Boxes (w : World) (CD : Nat → Prop) (bl bn bi bb G N g M I : Nat) (x : Value) : Prop where
  l : Blk w bl 66 #[.pointer (some ⟨G, 0, none⟩)]
  n : Blk w bn 93 #[.int .i64 (N : Int), .int .i64 (g : Int), .int .i64 (M : Int)]
  i : Blk w bi 3 #[.int .i64 (I : Int)]
  b : Blk w bb 34 #[x]
  ol : ¬ CD bl
  on : ¬ CD bn
  oi : ¬ CD bi
  ob : ¬ CD bb
theorem Boxes.chg {w w' : World} {CD S : Nat → Prop} {bl bn bi bb G N g M I : Nat} {x : Value} (h : Boxes w CD bl bn bi bb G N g M I x) (hc : Chg S w w') (hS : ∀ q, S q → CD q) : Boxes w' CD bl bn bi bb G N g M I x :=
  ⟨h.l.chg hc (fun e => h.ol (hS _ e)), h.n.chg hc (fun e => h.on (hS _ e)), h.i.chg hc (fun e => h.oi (hS _ e)), h.b.chg hc (fun e => h.ob (hS _ e)), h.ol, h.on, h.oi, h.ob⟩
theorem Boxes.chgG {w w' : World} {CD S : Nat → Prop} {bl bn bi bb G N g M I : Nat} {x : Value} (h : Boxes w CD bl bn bi bb G N g M I x) (hc : Chg S w w') (hS : ∀ q, S q → CD q ∨ q = G) (hG : G < bl ∧ G < bn ∧ G < bi ∧ G < bb) : Boxes w' CD bl bn bi bb G N g M I x := by
  have key : ∀ {q : Nat}, ¬ CD q → G < q → ¬ S q := fun h1 h2 e => by rcases hS _ e with e | e; exact h1 e; omega
  exact ⟨h.l.chg hc (key h.ol hG.1), h.n.chg hc (key h.on hG.2.1), h.i.chg hc (key h.oi hG.2.2.1), h.b.chg hc (key h.ob hG.2.2.2), h.ol, h.on, h.oi, h.ob⟩
theorem Boxes.fr {w w' : World} {CD : Nat → Prop} {bl bn bi bb G N g M I : Nat} {x : Value} (h : Boxes w CD bl bn bi bb G N g M I x) (hc : Chg CD w w') : Boxes w' (Fr CD w w') bl bn bi bb G N g M I x := by
  have h' := h.chg hc (fun _ h => h)
  have key : ∀ {q : Nat}, ¬ CD q → q < w.heap.size → ¬ Fr CD w w' q := fun hq hl e => by rcases e with e | e; exact hq e; omega
  exact ⟨h'.l, h'.n, h'.i, h'.b, key h.ol h.l.lt, key h.on h.n.lt, key h.oi h.i.lt, key h.ob h.b.lt⟩
set_option maxRecDepth 100000 in
set_option maxHeartbeats 2000000 in
theorem settle1_any {w : World} {G size n gen len : Nat} {bg bk : Bool} {tv : Value} {L : PLay} {CD : Nat → Prop} {s : DS} {bl bn bi bb N g M I : Nat} {x : Value} (h : LogB w G L.g size n gen len bg bk tv) (hD : OD w L CD s) (hG : ¬ CD G) (hX : Boxes w CD bl bn bi bb G N g M I x) (b : List UInt8) (hb : b.length ≤ 1000000) (hx : SegA w CD x (b.drop (I * 128))) (hsz : size ≤ 262016) (hI : I ≤ 5000) (F : Nat) (hF : b.length ≤ (I + F) * 128) :
    Calls Tryz.prog 80 #[.pointer (some ⟨bl, 0, none⟩), .pointer (some ⟨bn, 0, none⟩), .pointer (some ⟨bi, 0, none⟩), .pointer (some ⟨bb, 0, none⟩)] w fun e w' => e = .returned (.int .i64 (rowsW (2 + g % 2 * (size / 128)) b F I s).1) ∧ OD w' L (Fr CD w w') (rowsW (2 + g % 2 * (size / 128)) b F I s).2 ∧ Chg CD w w' := by
  have hFI : 2 + g % 2 * (size / 128) + I ≤ 100000 := by
    rcases (show g % 2 = 0 ∨ g % 2 = 1 by omega) with e | e <;> rw [e] <;> omega
  have HSE := sector_any (Blk.drew h) (by omega : size ≤ 1000000) g I (by omega)
  have HW := writeSec_any (Blk.drew h) (hD.after ((Below.refl _ _).drew)) hG (2 + g % 2 * (size / 128)) I hFI x b hb ⟨hx.1.drew, hx.2⟩ F hF
  have HCA : Hid (∀ W : World, Chg CD w W → W.cell? ⟨bl, 0, none⟩ = some (.pointer (some ⟨G, 0, none⟩)) ∧ W.cell? ⟨bn, 1, none⟩ = some (.int .i64 (g : Int)) ∧ W.cell? ⟨bi, 0, none⟩ = some (.int .i64 (I : Int)) ∧ W.cell? ⟨bb, 0, none⟩ = some x) := fun W hW => by
    have hX' := hX.chg hW (fun _ h => h)
    exact ⟨hX'.l.cell rfl, hX'.n.cell rfl, hX'.i.cell rfl, hX'.b.cell rfl⟩
  obtain ⟨ax, cx, rfl⟩ := Seg.shapeD hx.1
  have hS0 := HCA.out w.drew ((Chg.refl _ _).drew)
  generalize rowsW (2 + g % 2 * (size / 128)) b F I s = Y at *
  obtain ⟨E, t2⟩ := Y
  dsimp only at HW ⊢
  generalize 2 + g % 2 * (size / 128) + I = KK at *
  generalize (b.drop (I * 128)).length = LB at *
  clear h hD hX hx
  go_enter Tryz.func80, Tryz.ntmps80
  go_wp2_with fail
  refine held_begin (fun V => V.cell? ⟨bl, 0, none⟩ = some (.pointer (some ⟨G, 0, none⟩)) ∧ V.cell? ⟨bn, 1, none⟩ = some (.int .i64 (g : Int)) ∧ V.cell? ⟨bi, 0, none⟩ = some (.int .i64 (I : Int)) ∧ V.cell? ⟨bb, 0, none⟩ = some (.slice ax LB cx)) (by kernel_rfl) ?_
  refine held_take 0 5 _ (.pointer (some ⟨G, 0, none⟩)) rfl rfl (by kernel_rfl) (by kernel_rfl) (by kernel_rfl) rfl hS0 (fun V hV => exec_loadc 66 _ rfl _ _ rfl (load_one 66 (fun _ => by kernel_rfl) V _ _ _ hV.1)) ?_
  simp only [Act.put, List.setIfInBounds_toArray, List.set_cons_succ, List.set_cons_zero]
  refine held_take 1 6 _ (.pointer (some ⟨G, 0, none⟩)) rfl rfl (by kernel_rfl) (by kernel_rfl) (by kernel_rfl) rfl hS0 (fun V hV => exec_loadc 66 _ rfl _ _ rfl (load_one 66 (fun _ => by kernel_rfl) V _ _ _ hV.1)) ?_
  simp only [Act.put, List.setIfInBounds_toArray, List.set_cons_succ, List.set_cons_zero]
  refine held_take 2 7 _ (.pointer (some ⟨bn, 1, none⟩)) rfl rfl (by kernel_rfl) (by kernel_rfl) (by kernel_rfl) rfl hS0 (fun _ _ => rfl) ?_
  simp only [Act.put, List.setIfInBounds_toArray, List.set_cons_succ, List.set_cons_zero]
  refine held_take 3 8 _ (.int .i64 (g : Int)) rfl rfl (by kernel_rfl) (by kernel_rfl) (by kernel_rfl) rfl hS0 (fun V hV => exec_loadc 3 _ rfl _ _ rfl (load_one 3 (fun _ => by kernel_rfl) V _ _ _ hV.2.1)) ?_
  simp only [Act.put, List.setIfInBounds_toArray, List.set_cons_succ, List.set_cons_zero]
  refine held_take 4 9 _ (.int .i64 (I : Int)) rfl rfl (by kernel_rfl) (by kernel_rfl) (by kernel_rfl) rfl hS0 (fun V hV => exec_loadc 3 _ rfl _ _ rfl (load_one 3 (fun _ => by kernel_rfl) V _ _ _ hV.2.2.1)) ?_
  simp only [Act.put, List.setIfInBounds_toArray, List.set_cons_succ, List.set_cons_zero]
  refine held_take 6 11 _ (.slice ax LB cx) rfl rfl (by kernel_rfl) (by kernel_rfl) (by kernel_rfl) rfl hS0 (fun V hV => exec_loadc 34 _ rfl _ _ rfl (load_one 34 (fun _ => by kernel_rfl) V _ _ _ hV.2.2.2)) ?_
  simp only [Act.put, List.setIfInBounds_toArray, List.set_cons_succ, List.set_cons_zero]
  refine held_all1 5 (by kernel_rfl) (op_call 5 10 _ 82 #[.pointer (some ⟨G, 0, none⟩), .int .i64 (g : Int), .int .i64 (I : Int)] rfl rfl rfl (exec_three8 82 _ _ _ _ rfl _ _ _ rfl rfl rfl Tryz.call82) (HSE.mono ?_))
  rintro e W1 ⟨rfl, rfl⟩
  refine ⟨_, rfl, hS0, ?_⟩
  simp only [Act.put, List.setIfInBounds_toArray, List.set_cons_succ, List.set_cons_zero]
  refine held_all1 7 (by kernel_rfl) (op_call 7 12 _ 81 #[.pointer (some ⟨G, 0, none⟩), .int .i64 (KK : Int), .slice ax LB cx] rfl rfl rfl (exec_three8 81 _ _ _ _ rfl _ _ _ rfl rfl rfl Tryz.call81) (HW.mono ?_))
  rintro e W2 ⟨rfl, hOw, hcw⟩
  have hS2 := HCA.out W2 (((Chg.refl CD w).drew).trans hcw (fun _ _ h => h))
  refine ⟨_, rfl, hS2, ?_⟩
  simp only [Act.put, List.setIfInBounds_toArray, List.set_cons_succ, List.set_cons_zero]
  refine held_all1 8 (by kernel_rfl) (op_value 8 4 _ (.int .i64 E) W2 rfl rfl rfl (rfl) ⟨hS2, ?_⟩)
  simp only [Act.put, List.setIfInBounds_toArray, List.set_cons_succ, List.set_cons_zero]
  refine wpAnyH_done (by kernel_rfl) ?_ _
  refine NoPanic.normal ?_
  go_wp2
  go_ret
  exact ⟨rfl, hOw, ((Chg.refl CD w).drew).trans hcw (fun _ _ h => h)⟩
set_option maxRecDepth 100000 in
set_option maxHeartbeats 2000000 in
theorem settle2_any {w : World} {G size n gen len : Nat} {bg bk : Bool} {tv : Value} {L : PLay} {CD : Nat → Prop} {s : DS} {bl bn bi bb N g M I : Nat} {x : Value} (h : LogB w G L.g size n gen len bg bk tv) (hD : OD w L CD s) (hG : ¬ CD G) (hX : Boxes w CD bl bn bi bb G N g M I x) (hN : N < 4294967296) (hg : g < 4294967296) (hM : M < 4294967296) :
    Calls Tryz.prog 83 #[.pointer (some ⟨bl, 0, none⟩), .pointer (some ⟨bn, 0, none⟩)] w fun e w' => e = .returned (.int .i64 (writeS s ((N % 2 : Nat) : Int) (headB N g M)).1) ∧ OD w' L (Fr CD w w') (writeS s ((N % 2 : Nat) : Int) (headB N g M)).2 ∧ Chg CD w w' := by
  have hGl : G < w.heap.size := Blk.lt h
  have HCA : Hid (∀ W : World, Chg CD w W → W.cell? ⟨bl, 0, none⟩ = some (.pointer (some ⟨G, 0, none⟩)) ∧ W.rangeAt bn 0 [.int .i64 (N : Int), .int .i64 (g : Int), .int .i64 (M : Int)] ∧ W.cell? ⟨G, 0, none⟩ = some (.pointer (some ⟨L.g, 0, none⟩))) := fun W hW => by
    have hX' := hX.chg hW (fun _ h => h)
    exact ⟨hX'.l.cell rfl, hX'.n.range 0 _ (fun j v hv => by rw [Nat.zero_add]; simpa using hv), (Blk.chg h hW hG).cell (j := 0) rfl⟩
  have hS0 := HCA.out w.drew ((Chg.refl _ _).drew)
  have hlt := hD.lt
  have HD : Hid (∀ W : World, Below w.heap.size w W → OD W L CD s) := fun W hW => hD.after hW
  clear h hD hX hG
  go_enter Tryz.func83, Tryz.ntmps83
  go_wp2_with fail
  refine held_begin (fun V => V.cell? ⟨bl, 0, none⟩ = some (.pointer (some ⟨G, 0, none⟩)) ∧ V.rangeAt bn 0 [.int .i64 (N : Int), .int .i64 (g : Int), .int .i64 (M : Int)] ∧ V.cell? ⟨G, 0, none⟩ = some (.pointer (some ⟨L.g, 0, none⟩))) (by kernel_rfl) ?_
  refine held_take 0 3 _ (.pointer (some ⟨G, 0, none⟩)) rfl rfl (by kernel_rfl) (by kernel_rfl) (by kernel_rfl) rfl hS0 (fun V hV => exec_loadc 66 _ rfl _ _ rfl (load_one 66 (fun _ => by kernel_rfl) V _ _ _ hV.1)) ?_
  simp only [Act.put, List.setIfInBounds_toArray, List.set_cons_succ, List.set_cons_zero]
  refine held_take 1 4 _ (.pointer (some ⟨G, 0, none⟩)) rfl rfl (by kernel_rfl) (by kernel_rfl) (by kernel_rfl) rfl hS0 (fun _ _ => rfl) ?_
  simp only [Act.put, List.setIfInBounds_toArray, List.set_cons_succ, List.set_cons_zero]
  refine held_take 2 5 _ (.pointer (some ⟨G, 0, none⟩)) rfl rfl (by kernel_rfl) (by kernel_rfl) (by kernel_rfl) rfl hS0 (fun _ _ => rfl) ?_
  simp only [Act.put, List.setIfInBounds_toArray, List.set_cons_succ, List.set_cons_zero]
  refine held_take 3 6 _ (.pointer (some ⟨L.g, 0, none⟩)) rfl rfl (by kernel_rfl) (by kernel_rfl) (by kernel_rfl) rfl hS0 (fun V hV => exec_loadc 25 _ rfl _ _ rfl (load_one 25 (fun _ => by kernel_rfl) V _ _ _ hV.2.2)) ?_
  simp only [Act.put, List.setIfInBounds_toArray, List.set_cons_succ, List.set_cons_zero]
  refine held_take 4 7 _ (headV N g M) rfl rfl (by kernel_rfl) (by kernel_rfl) (by kernel_rfl) rfl hS0 (fun V hV => exec_load 93 _ rfl bn 0 rfl [.int .i64 (N : Int), .int .i64 (g : Int), .int .i64 (M : Int)] _ hV.2.1 Tryz.underlying93 rfl Tryz.info93s) ?_
  simp only [Act.put, List.setIfInBounds_toArray, List.set_cons_succ, List.set_cons_zero]
  refine held_take 6 9 _ (headV N g M) rfl rfl (by kernel_rfl) (by kernel_rfl) (by kernel_rfl) rfl hS0 (fun V hV => exec_load 93 _ rfl bn 0 rfl [.int .i64 (N : Int), .int .i64 (g : Int), .int .i64 (M : Int)] _ hV.2.1 Tryz.underlying93 rfl Tryz.info93s) ?_
  simp only [Act.put, List.setIfInBounds_toArray, List.set_cons_succ, List.set_cons_zero]
  refine held_all1 5 (by kernel_rfl) (op_call 5 8 _ 85 #[headV N g M] rfl rfl rfl (exec_one 85 _ _ rfl _ rfl Tryz.call85) ((hsec_any N g M _).mono ?_))
  rintro e W1 ⟨rfl, hb1⟩
  have hS1 := HCA.out W1 (Chg.of_below (((Below.refl w.heap.size w).drew).trans (hb1.mono (Nat.le_refl _))) (Nat.le_refl _))
  refine ⟨_, rfl, hS1, ?_⟩
  simp only [Act.put, List.setIfInBounds_toArray, List.set_cons_succ, List.set_cons_zero]
  refine held_all1 7 (by kernel_rfl) (op_call 7 10 _ 86 #[headV N g M] rfl rfl rfl (exec_one 86 _ _ rfl _ rfl Tryz.call86) ((code_any N g M _ hN hg hM).mono ?_))
  rintro e W3 ⟨v10, rfl, hs10, hq10, hb10⟩
  have hbc : Below w.heap.size w W3 := (((Below.refl w.heap.size w).drew).trans (hb1.mono (Nat.le_refl _))).trans (hb10.mono (by have := hb1.size; exact this))
  have hS3 := HCA.out W3 (Chg.of_below hbc (Nat.le_refl _))
  have HW := od_write L CD s ((N % 2 : Nat) : Int) v10 (headB N g M) W3 (HD.out W3 hbc) hs10 (fun _ q hq e => by have h1 := hq10 q hq; have h2 := hlt q e; have h3 : w.heap.size ≤ W1.heap.size := hb1.size; omega)
  refine ⟨_, rfl, hS3, ?_⟩
  simp only [Act.put, List.setIfInBounds_toArray, List.set_cons_succ, List.set_cons_zero]
  refine held_all1 8 (by kernel_rfl) (op_call 8 11 _ 84 #[.pointer (some ⟨L.g, 0, none⟩), .int .i64 ((N % 2 : Nat) : Int), v10] rfl rfl rfl (exec_three8 84 _ _ _ _ rfl _ _ _ rfl rfl rfl Tryz.call84) (HW.mono ?_))
  rintro e W4 ⟨rfl, hOw, hcw⟩
  have hS4 := HCA.out W4 ((Chg.of_below (S := CD) hbc (Nat.le_refl _)).trans hcw (fun _ _ h => h))
  refine ⟨_, rfl, hS4, ?_⟩
  simp only [Act.put, List.setIfInBounds_toArray, List.set_cons_succ, List.set_cons_zero]
  refine held_all1 9 (by kernel_rfl) (op_value 9 2 _ (.int .i64 (writeS s ((N % 2 : Nat) : Int) (headB N g M)).1) W4 rfl rfl rfl (rfl) ⟨hS4, ?_⟩)
  simp only [Act.put, List.setIfInBounds_toArray, List.set_cons_succ, List.set_cons_zero]
  refine wpAnyH_done (by kernel_rfl) ?_ _
  refine NoPanic.normal ?_
  go_wp2
  go_ret
  exact ⟨rfl, hOw.mono (fun q hq => (by rcases hq with h | h; exact .inl h; exact .inr ⟨by have := hbc.size; omega, h.2⟩)) (fun q hq => by rcases hq with h | h; exact Nat.lt_of_lt_of_le (Nat.lt_of_lt_of_le (hlt q h) hbc.size) hcw.size; exact h.2), (Chg.of_below (S := CD) hbc (Nat.le_refl _)).trans hcw (fun _ _ h => h)⟩
end Go.Proofs.YtbegphfideopoaaGreat
namespace Go.Proofs.YtbegphfideopoaaGreat
open Go.RowKit

/-- The four steps of a change. -/
def stepF (first N g M I F : Nat) (b : List UInt8) (k : Nat) (t : DS) : Int × DS :=
  if k = 0 then rowsW first b F I t else if k = 2 then writeS t ((N % 2 : Nat) : Int) (headB N g M) else syncS t
/-- What comes of the steps from the k-th on. -/
def contW (first N g M I F : Nat) (b : List UInt8) : Nat → Nat → DS → Int × DS
  | 0, _, t => (0, t)
  | n + 1, k, t => if (stepF first N g M I F b k t).1 ≠ 0 then stepF first N g M I F b k t else contW first N g M I F b n (k + 1) (stepF first N g M I F b k t).2
theorem pair_zero (x : Int × DS) : (if x.1 ≠ 0 then x else (0, x.2)) = x := by
  obtain ⟨a, b⟩ := x
  by_cases h : a = 0
  · subst h; rfl
  · rw [if_pos h]
theorem writeW_steps (s : DS) (n gen frm F : Nat) (b : List UInt8) (hF : b.length ≤ (frm / 128 + F) * 128) : writeW s n gen frm b = contW (2 + gen % 2 * halfS s) (n + 1) gen b.length (frm / 128) F b 4 0 s := by
  unfold writeW sealW
  rw [rowsW_more _ b (b.length + 1) F (frm / 128) s (by omega) hF]
  have e : ∀ t, contW (2 + gen % 2 * halfS s) (n + 1) gen b.length (frm / 128) F b 1 3 t = syncS t := fun t => pair_zero (syncS t)
  show _ = if (rowsW (2 + gen % 2 * halfS s) b F (frm / 128) s).1 ≠ 0 then _ else if (syncS (rowsW (2 + gen % 2 * halfS s) b F (frm / 128) s).2).1 ≠ 0 then _ else if (writeS (syncS (rowsW (2 + gen % 2 * halfS s) b F (frm / 128) s).2).2 (((n + 1) % 2 : Nat) : Int) (headB (n + 1) gen b.length)).1 ≠ 0 then _ else contW (2 + gen % 2 * halfS s) (n + 1) gen b.length (frm / 128) F b 1 3 _
  rw [e]
  rfl
/-- The steps as values. -/
def stepV (bl bn bi bb g : Nat) (k : Nat) : Value :=
  if k = 0 then .func (.func 80) #[] #[.pointer (some ⟨bl, 0, none⟩), .pointer (some ⟨bn, 0, none⟩), .pointer (some ⟨bi, 0, none⟩), .pointer (some ⟨bb, 0, none⟩)]
  else if k = 2 then .func (.func 83) #[] #[.pointer (some ⟨bl, 0, none⟩), .pointer (some ⟨bn, 0, none⟩)]
  else .func (.func 88) #[.pointer (some ⟨g, 0, none⟩)] #[]
set_option maxRecDepth 100000 in
set_option maxHeartbeats 4000000 in
theorem change_any {w : World} {G size n gen len : Nat} {bg : Bool} {tv : Value} {L : PLay} {CD : Nat → Prop} {s : DS} {bl bn bi bb N g M I gs : Nat} {x : Value} (h : LogB w G L.g size n gen len bg false tv) (hD : OD w L CD s) (hG : ¬ CD G) (hX : Boxes w CD bl bn bi bb G N g M I x) (b : List UInt8) (hb : b.length ≤ 1000000) (hx : SegA w CD x (b.drop (I * 128))) (hsz : size ≤ 262016) (hI : I ≤ 5000) (F : Nat) (hF : b.length ≤ (I + F) * 128) (hN : N < 4294967296) (hg : g < 4294967296) (hM : M < 4294967296)
    (tt : TypeId) (hgs : Blk w gs tt #[stepV bl bn bi bb L.g 0, stepV bl bn bi bb L.g 1, stepV bl bn bi bb L.g 2, stepV bl bn bi bb L.g 3]) (ogs : ¬ CD gs) :
    Calls Tryz.prog 87 #[.pointer (some ⟨G, 0, none⟩), .slice (some ⟨gs, 0, none⟩) 4 4] w fun e w' => e = .returned (.int .i64 (contW (2 + g % 2 * (size / 128)) N g M I F b 4 0 s).1) ∧ OD w' L (Fr CD w w') (contW (2 + g % 2 * (size / 128)) N g M I F b 4 0 s).2 ∧ LogB w' G L.g size n gen len bg (decide ((contW (2 + g % 2 * (size / 128)) N g M I F b 4 0 s).1 ≠ 0)) tv ∧ Chg (fun q => CD q ∨ q = G) w w' := by
  have hGl : G < w.heap.size := Blk.lt h
  have hlt := hD.lt
  obtain ⟨R, hR⟩ : ∃ R, R = contW (2 + g % 2 * (size / 128)) N g M I F b 4 0 s := ⟨_, rfl⟩
  rw [← hR]
  have hOD0 : OD w L (Fr CD w w) s := hD.mono (fun q hq => .inl hq) (fun q hq => by rcases hq with hq | hq; exact hD.lt q hq; omega)
  have key : ∀ {q : Nat} {w' : World}, ¬ CD q → q < w.heap.size → ¬ Fr CD w w' q := fun hq hl e => by rcases e with e | e; exact hq e; omega
  have HK : Hid (∀ (k : Nat) (W : World) (t : DS), Chg CD w W → OD W L (Fr CD w W) t → (k = 0 → Calls Tryz.prog 80 #[.pointer (some ⟨bl, 0, none⟩), .pointer (some ⟨bn, 0, none⟩), .pointer (some ⟨bi, 0, none⟩), .pointer (some ⟨bb, 0, none⟩)] W fun e w' => e = .returned (.int .i64 (stepF (2 + g % 2 * (size / 128)) N g M I F b k t).1) ∧ OD w' L (Fr CD w w') (stepF (2 + g % 2 * (size / 128)) N g M I F b k t).2 ∧ Chg CD w w') ∧
      (k = 2 → Calls Tryz.prog 83 #[.pointer (some ⟨bl, 0, none⟩), .pointer (some ⟨bn, 0, none⟩)] W fun e w' => e = .returned (.int .i64 (stepF (2 + g % 2 * (size / 128)) N g M I F b k t).1) ∧ OD w' L (Fr CD w w') (stepF (2 + g % 2 * (size / 128)) N g M I F b k t).2 ∧ Chg CD w w') ∧
      (k = 1 ∨ k = 3 → Calls Tryz.prog 88 #[.pointer (some ⟨L.g, 0, none⟩)] W fun e w' => e = .returned (.int .i64 (stepF (2 + g % 2 * (size / 128)) N g M I F b k t).1) ∧ OD w' L (Fr CD w w') (stepF (2 + g % 2 * (size / 128)) N g M I F b k t).2 ∧ Chg CD w w')) := fun k W t hW hO => by
    have hLB := Blk.chg h hW hG
    have hX' : Boxes W (Fr CD w W) bl bn bi bb G N g M I x := hX.fr hW
    have hG' : ¬ Fr CD w W G := key hG hGl
    have hx' : SegA W (Fr CD w W) x (b.drop (I * 128)) := ⟨hx.1.chg hW hx.2, fun h0 q hq e => by
      rcases e with e | e
      · exact hx.2 h0 q hq e
      · have : q < w.heap.size := by
          rcases hx.1 with ⟨e0, _⟩ | ⟨b', off', c', e0, _, _, hb'⟩
          · rw [e0] at h0; cases h0
          · rw [e0] at hq
            obtain rfl : b' = q := Option.some.inj hq
            exact hb'
        omega⟩
    refine ⟨fun hk => ?_, fun hk => ?_, fun hk => ?_⟩
    · subst hk
      exact (settle1_any hLB hO hG' hX' b hb hx' hsz hI F hF).mono fun e w' ⟨h1, h2, h3⟩ => ⟨h1, OD.fr h2 hW.size h3.size hlt, hW.fr h3⟩
    · subst hk
      exact (settle2_any hLB hO hG' hX' hN hg hM).mono fun e w' ⟨h1, h2, h3⟩ => ⟨h1, OD.fr h2 hW.size h3.size hlt, hW.fr h3⟩
    · have e : stepF (2 + g % 2 * (size / 128)) N g M I F b k t = syncS t := by rcases hk with rfl | rfl <;> rfl
      rw [e]
      exact (od_sync L (Fr CD w W) t W hO).mono fun e w' ⟨h1, h2, h3⟩ => ⟨h1, OD.fr h2 hW.size h3.size hlt, hW.fr h3⟩
  have HLB : Hid (∀ W : World, Chg CD w W → LogB W G L.g size n gen len bg false tv) := fun W hW => Blk.chg h hW hG
  have HGS : Hid (∀ W : World, Chg CD w W → Blk W gs tt #[stepV bl bn bi bb L.g 0, stepV bl bn bi bb L.g 1, stepV bl bn bi bb L.g 2, stepV bl bn bi bb L.g 3]) := fun W hW => hgs.chg hW ogs
  have HST : Hid (∀ (n' k : Nat) (t : DS), contW (2 + g % 2 * (size / 128)) N g M I F b (n' + 1) k t = if (stepF (2 + g % 2 * (size / 128)) N g M I F b k t).1 ≠ 0 then stepF (2 + g % 2 * (size / 128)) N g M I F b k t else contW (2 + g % 2 * (size / 128)) N g M I F b n' (k + 1) (stepF (2 + g % 2 * (size / 128)) N g M I F b k t).2) := fun _ _ _ => rfl
  have HEN : Hid (∀ (k : Nat) (t : DS), contW (2 + g % 2 * (size / 128)) N g M I F b 0 k t = (0, t)) := fun _ _ => rfl
  have HR0 : Hid (R = contW (2 + g % 2 * (size / 128)) N g M I F b 4 0 s) := hR
  clear h hD hX hx hR hgs hF hI hb hN hg hM
  generalize contW (2 + g % 2 * (size / 128)) N g M I F b = CW at *
  generalize stepF (2 + g % 2 * (size / 128)) N g M I F b = SF at *
  go_enter Tryz.func87, Tryz.ntmps87
  go_wp2_with fail
  go_loopw [10] (fun i wr => ∃ (K : Nat) (t : DS), i = .int .i64 (K : Int) ∧ K ≤ 4 ∧ R = CW (4 - K) K t ∧ OD wr L (Fr CD w wr) t ∧ Chg CD w wr) (fun i _ => 4 - (intOf i).toNat)
  case atStart => exact ⟨0, s, rfl, by omega, HR0.out, hOD0, Chg.refl _ _⟩
  case round =>
    obtain ⟨K, t, rfl, hK, hRK, hO, hc⟩ := hrel
    clear hOD0 HR0
    by_cases hk4 : K = 4
    · subst hk4
      have HE : Hid (R = (0, t)) := by show _ = _; rw [hRK]; exact HEN.out 4 t
      have hLB := HLB.out wr hc
      clear HK HLB HGS HST HEN hRK
      go_wp2_with fail
      go_ret
      rw [HE.out]
      exact ⟨rfl, hO, hLB, hc.weaken (fun _ h => .inl h)⟩
    have HKK := HK.out K wr t hc hO
    have hGS := HGS.out wr hc
    have hun : R = if (SF K t).1 ≠ 0 then SF K t else CW (4 - (K + 1)) (K + 1) (SF K t).2 := by
      rw [hRK, show 4 - K = (4 - (K + 1)) + 1 by omega]
      exact HST.out _ _ _
    have HRU : Hid (∀ X : Int × DS, SF K t = X → R = if X.1 ≠ 0 then X else CW (4 - (K + 1)) (K + 1) X.2) := fun X hX => by rw [← hX]; exact hun
    clear hun hRK HK HGS HST HEN
    generalize SF K t = Y at *
    obtain ⟨E, t2⟩ := Y
    have HR2 := HRU.out (E, t2) rfl
    dsimp only at HKK HR2
    clear HRU
    rcases (show K = 0 ∨ K = 1 ∨ K = 2 ∨ K = 3 by omega) with rfl | rfl | rfl | rfl
    · have c0 : wr.cell? ⟨gs, 0, none⟩ = some (stepV bl bn bi bb L.g 0) := hGS.cell rfl
      unfold stepV at c0
      rw [if_pos rfl] at c0
      have HC := HKK.1 rfl
      clear HKK
      go_wp2_with fail
      refine HC.mono ?_
      clear HC c0 hGS
      rintro e W2 ⟨rfl, hO2, hc2⟩
      have hLB := HLB.out W2 hc2
      clear HLB
      by_cases hE : E = 0
      · have b1 : (E != 0) = false := by rw [hE]; rfl
        rw [if_neg (fun h => h hE)] at HR2
        have HR3 : Hid _ := HR2
        clear HR2 hE
        go_wp2_with fail
        go_roundw
        case rel => exact ⟨1, t2, rfl, by omega, HR3.out, hO2, hc2⟩
        case measure => simp [intOf]
      · have b1 : (E != 0) = true := by simp [hE]
        rw [if_pos hE] at HR2
        have HR3 : Hid _ := HR2
        have HDE : Hid (decide (E ≠ 0) = true) := decide_eq_true hE
        clear HR2 hE
        have hx : Blk W2 G 95 (logC L.g size n gen len bg false tv) := hLB
        unfold logC at hx
        have x6 := hx.cell (j := 6) rfl
        have f6 := hx.frozen 6
        have hcG : Chg (fun q => q = G) W2 (W2.setCell ⟨G, 6, none⟩ (.bool true)) := (Chg.refl (fun q => q = G) W2).setCell G 6 _ (fun _ => rfl)
        have hO3 : OD (W2.setCell ⟨G, 6, none⟩ (.bool true)) L (Fr CD w W2) t2 := hO2.chg hcG (fun q hq e => by subst e; exact key hG hGl hq)
        have hL3 : LogB (W2.setCell ⟨G, 6, none⟩ (.bool true)) G L.g size n gen len bg true tv := (hx.set 6 _).of_eq rfl
        have hs3 : (W2.setCell ⟨G, 6, none⟩ (.bool true)).heap.size = W2.heap.size := by simp
        clear hx hLB
        go_wp2_with fail
        go_ret
        rw [HR3.out]
        dsimp only
        rw [HDE.out]
        exact ⟨rfl, hO3.mono (fun q hq => (by rcases hq with h | h; exact .inl h; exact .inr ⟨h.1, by rw [hs3]; exact h.2⟩)) (fun q hq => by rcases hq with h | h; have := hlt q h; rw [hs3]; have := hc2.size; omega; exact h.2), hL3, (hc2.weaken (fun _ h => .inl h)).trans hcG (fun _ _ h => .inr h)⟩
    · have c0 : wr.cell? ⟨gs, 1, none⟩ = some (stepV bl bn bi bb L.g 1) := hGS.cell rfl
      unfold stepV at c0
      rw [if_neg (by decide), if_neg (by decide)] at c0
      have HC := HKK.2.2 (.inl rfl)
      clear HKK
      go_wp2_with fail
      refine HC.mono ?_
      clear HC c0 hGS
      rintro e W2 ⟨rfl, hO2, hc2⟩
      have hLB := HLB.out W2 hc2
      clear HLB
      by_cases hE : E = 0
      · have b1 : (E != 0) = false := by rw [hE]; rfl
        rw [if_neg (fun h => h hE)] at HR2
        have HR3 : Hid _ := HR2
        clear HR2 hE
        go_wp2_with fail
        go_roundw
        case rel => exact ⟨2, t2, rfl, by omega, HR3.out, hO2, hc2⟩
        case measure => simp [intOf]
      · have b1 : (E != 0) = true := by simp [hE]
        rw [if_pos hE] at HR2
        have HR3 : Hid _ := HR2
        have HDE : Hid (decide (E ≠ 0) = true) := decide_eq_true hE
        clear HR2 hE
        have hx : Blk W2 G 95 (logC L.g size n gen len bg false tv) := hLB
        unfold logC at hx
        have x6 := hx.cell (j := 6) rfl
        have f6 := hx.frozen 6
        have hcG : Chg (fun q => q = G) W2 (W2.setCell ⟨G, 6, none⟩ (.bool true)) := (Chg.refl (fun q => q = G) W2).setCell G 6 _ (fun _ => rfl)
        have hO3 : OD (W2.setCell ⟨G, 6, none⟩ (.bool true)) L (Fr CD w W2) t2 := hO2.chg hcG (fun q hq e => by subst e; exact key hG hGl hq)
        have hL3 : LogB (W2.setCell ⟨G, 6, none⟩ (.bool true)) G L.g size n gen len bg true tv := (hx.set 6 _).of_eq rfl
        have hs3 : (W2.setCell ⟨G, 6, none⟩ (.bool true)).heap.size = W2.heap.size := by simp
        clear hx hLB
        go_wp2_with fail
        go_ret
        rw [HR3.out]
        dsimp only
        rw [HDE.out]
        exact ⟨rfl, hO3.mono (fun q hq => (by rcases hq with h | h; exact .inl h; exact .inr ⟨h.1, by rw [hs3]; exact h.2⟩)) (fun q hq => by rcases hq with h | h; have := hlt q h; rw [hs3]; have := hc2.size; omega; exact h.2), hL3, (hc2.weaken (fun _ h => .inl h)).trans hcG (fun _ _ h => .inr h)⟩
    · have c0 : wr.cell? ⟨gs, 2, none⟩ = some (stepV bl bn bi bb L.g 2) := hGS.cell rfl
      unfold stepV at c0
      rw [if_neg (by decide), if_pos rfl] at c0
      have HC := HKK.2.1 rfl
      clear HKK
      go_wp2_with fail
      refine HC.mono ?_
      clear HC c0 hGS
      rintro e W2 ⟨rfl, hO2, hc2⟩
      have hLB := HLB.out W2 hc2
      clear HLB
      by_cases hE : E = 0
      · have b1 : (E != 0) = false := by rw [hE]; rfl
        rw [if_neg (fun h => h hE)] at HR2
        have HR3 : Hid _ := HR2
        clear HR2 hE
        go_wp2_with fail
        go_roundw
        case rel => exact ⟨3, t2, rfl, by omega, HR3.out, hO2, hc2⟩
        case measure => simp [intOf]
      · have b1 : (E != 0) = true := by simp [hE]
        rw [if_pos hE] at HR2
        have HR3 : Hid _ := HR2
        have HDE : Hid (decide (E ≠ 0) = true) := decide_eq_true hE
        clear HR2 hE
        have hx : Blk W2 G 95 (logC L.g size n gen len bg false tv) := hLB
        unfold logC at hx
        have x6 := hx.cell (j := 6) rfl
        have f6 := hx.frozen 6
        have hcG : Chg (fun q => q = G) W2 (W2.setCell ⟨G, 6, none⟩ (.bool true)) := (Chg.refl (fun q => q = G) W2).setCell G 6 _ (fun _ => rfl)
        have hO3 : OD (W2.setCell ⟨G, 6, none⟩ (.bool true)) L (Fr CD w W2) t2 := hO2.chg hcG (fun q hq e => by subst e; exact key hG hGl hq)
        have hL3 : LogB (W2.setCell ⟨G, 6, none⟩ (.bool true)) G L.g size n gen len bg true tv := (hx.set 6 _).of_eq rfl
        have hs3 : (W2.setCell ⟨G, 6, none⟩ (.bool true)).heap.size = W2.heap.size := by simp
        clear hx hLB
        go_wp2_with fail
        go_ret
        rw [HR3.out]
        dsimp only
        rw [HDE.out]
        exact ⟨rfl, hO3.mono (fun q hq => (by rcases hq with h | h; exact .inl h; exact .inr ⟨h.1, by rw [hs3]; exact h.2⟩)) (fun q hq => by rcases hq with h | h; have := hlt q h; rw [hs3]; have := hc2.size; omega; exact h.2), hL3, (hc2.weaken (fun _ h => .inl h)).trans hcG (fun _ _ h => .inr h)⟩
    · have c0 : wr.cell? ⟨gs, 3, none⟩ = some (stepV bl bn bi bb L.g 3) := hGS.cell rfl
      unfold stepV at c0
      rw [if_neg (by decide), if_neg (by decide)] at c0
      have HC := HKK.2.2 (.inr rfl)
      clear HKK
      go_wp2_with fail
      refine HC.mono ?_
      clear HC c0 hGS
      rintro e W2 ⟨rfl, hO2, hc2⟩
      have hLB := HLB.out W2 hc2
      clear HLB
      by_cases hE : E = 0
      · have b1 : (E != 0) = false := by rw [hE]; rfl
        rw [if_neg (fun h => h hE)] at HR2
        have HR3 : Hid _ := HR2
        clear HR2 hE
        go_wp2_with fail
        go_roundw
        case rel => exact ⟨4, t2, rfl, by omega, HR3.out, hO2, hc2⟩
        case measure => simp [intOf]
      · have b1 : (E != 0) = true := by simp [hE]
        rw [if_pos hE] at HR2
        have HR3 : Hid _ := HR2
        have HDE : Hid (decide (E ≠ 0) = true) := decide_eq_true hE
        clear HR2 hE
        have hx : Blk W2 G 95 (logC L.g size n gen len bg false tv) := hLB
        unfold logC at hx
        have x6 := hx.cell (j := 6) rfl
        have f6 := hx.frozen 6
        have hcG : Chg (fun q => q = G) W2 (W2.setCell ⟨G, 6, none⟩ (.bool true)) := (Chg.refl (fun q => q = G) W2).setCell G 6 _ (fun _ => rfl)
        have hO3 : OD (W2.setCell ⟨G, 6, none⟩ (.bool true)) L (Fr CD w W2) t2 := hO2.chg hcG (fun q hq e => by subst e; exact key hG hGl hq)
        have hL3 : LogB (W2.setCell ⟨G, 6, none⟩ (.bool true)) G L.g size n gen len bg true tv := (hx.set 6 _).of_eq rfl
        have hs3 : (W2.setCell ⟨G, 6, none⟩ (.bool true)).heap.size = W2.heap.size := by simp
        clear hx hLB
        go_wp2_with fail
        go_ret
        rw [HR3.out]
        dsimp only
        rw [HDE.out]
        exact ⟨rfl, hO3.mono (fun q hq => (by rcases hq with h | h; exact .inl h; exact .inr ⟨h.1, by rw [hs3]; exact h.2⟩)) (fun q hq => by rcases hq with h | h; have := hlt q h; rw [hs3]; have := hc2.size; omega; exact h.2), hL3, (hc2.weaken (fun _ h => .inl h)).trans hcG (fun _ _ h => .inr h)⟩
end Go.Proofs.YtbegphfideopoaaGreat
namespace Go.Proofs.YtbegphfideopoaaGreat
open Go.RowKit

theorem exec_rem7 {a : Act} {o : Oper} {w : World} (t : TypeId) (x y : Operand) (ho : o.op = .binOp .rem t x y t) (m n : Int) (r : Int) (hx : a.eval x = .int .i64 m) (hy : a.eval y = .int .i64 n) (hn : n ≠ 0) (h : Int.tmod m n = r) : (execOp a.eval o).run Tryz.prog w = .ok (.value (.int .i64 r)) w := by
  subst h
  unfold execOp
  simp [ho, hx, hy, binOp, Op.intDiv, hn]
  rfl
theorem exec_sub7 {a : Act} {o : Oper} {w : World} (t : TypeId) (x y : Operand) (ho : o.op = .binOp .sub t x y t) (m n r : Int) (hx : a.eval x = .int .i64 m) (hy : a.eval y = .int .i64 n) (h : m - n = r ∧ -9223372036854775808 ≤ r ∧ r < 9223372036854775808) : (execOp a.eval o).run Tryz.prog w = .ok (.value (.int .i64 r)) w := by
  obtain ⟨rfl, h1, h2⟩ := h
  exact exec_subi t x y ho m n hx hy h1 h2
theorem exec_make1 {a : Act} {o : Oper} {w : World} (fn : Fn) (x : Operand) (ho : o.op = .makeFunc fn #[x] #[]) (u : Value) (hx : a.eval x = u) : (execOp a.eval o).run Tryz.prog w = .ok (.value (.func fn #[u] #[])) w := by
  unfold execOp
  simp only [ho, List.map_toArray, List.map_cons, List.map_nil, hx]
  generalize a.eval = ev
  simp [go_sem]
theorem exec_funcs {a : Act} {o : Oper} {w : World} (x0 x1 x2 x3 : Operand) (ho : o.op = .buildSlice 161 4 #[(0, x0), (1, x1), (2, x2), (3, x3)]) (f0 f1 f2 f3 : Fn) (p0 p1 p2 p3 q0 q1 q2 q3 : Array Value) (h0 : a.eval x0 = .func f0 p0 q0) (h1 : a.eval x1 = .func f1 p1 q1) (h2 : a.eval x2 = .func f2 p2 q2) (h3 : a.eval x3 = .func f3 p3 q3) : (execOp a.eval o).run Tryz.prog w = .ok (.value (.slice (some ⟨w.heap.size, 0, none⟩) 4 4)) (w.alloc (.cells #[.func f0 p0 q0, .func f1 p1 q1, .func f2 p2 q2, .func f3 p3 q3] 121)) := by
  unfold execOp
  simp only [ho, List.map_toArray, List.map_cons, List.map_nil, h0, h1, h2, h3]
  generalize a.eval = ev
  simp [go_sem]
/-- What a change leaves of the log. -/
def SettleEnd (w w' : World) (G : Nat) (L : PLay) (CD : Nat → Prop) (size n gen len : Nat) (bg : Bool) (tv : Value) (N g : Nat) (b : List UInt8) (R : Int × DS) : Prop :=
  ∃ CD' : Nat → Prop, OD w' L CD' R.2 ∧ (∀ q, CD' q → CD q ∨ w.heap.size ≤ q) ∧ (∀ q, q < w.heap.size → ¬ CD q → ¬ CD' q) ∧ Chg (fun q => CD q ∨ q = G) w w' ∧
    ((R.1 ≠ 0 ∧ LogB w' G L.g size n gen len bg true tv) ∨ (R.1 = 0 ∧ ∃ tv', LogB w' G L.g size N g b.length bg false tv' ∧ Own w' w.heap.size tv' (b.drop (b.length / 128 * 128)) ∧ ∀ q, tv'.ownBlock = some q → ¬ CD' q))
set_option maxRecDepth 100000 in
set_option maxHeartbeats 4000000 in
theorem settle_any {w : World} {G size n gen len : Nat} {bg : Bool} {ta : Option Addr} {tl tc : Nat} {L : PLay} {CD : Nat → Prop} {s : DS} (N g I : Nat) (x : Value) (h : LogB w G L.g size n gen len bg false (.slice ta tl tc)) (hD : OD w L CD s) (hG : ¬ CD G) (b : List UInt8) (hb : b.length ≤ 262016) (hx : SegA w CD x (b.drop (I * 128))) (hxG : 0 < (b.drop (I * 128)).length → ∀ q, x.ownBlock = some q → q ≠ G) (hsz : size ≤ 262016) (hI : I ≤ 5000) (hIb : I * 128 ≤ b.length) (F : Nat) (hF : b.length ≤ (I + F) * 128) (hN : N < 4294967296) (hg : g < 4294967296) :
    Calls Tryz.prog 55 #[.pointer (some ⟨G, 0, none⟩), headV N g b.length, .int .i64 (I : Int), x] w fun e w' => e = .returned (.int .i64 (contW (2 + g % 2 * (size / 128)) N g b.length I F b 4 0 s).1) ∧ SettleEnd w w' G L CD size n gen len bg (.slice ta tl tc) N g b (contW (2 + g % 2 * (size / 128)) N g b.length I F b 4 0 s) := by
  have hGl : G < w.heap.size := Blk.lt h
  have hlt := hD.lt
  obtain ⟨ax, cx, rfl⟩ := Seg.shapeD hx.1
  obtain ⟨R, hR⟩ : ∃ R, R = contW (2 + g % 2 * (size / 128)) N g b.length I F b 4 0 s := ⟨_, rfl⟩
  rw [← hR]
  unfold headV
  have HCH : Hid (∀ W : World, Chg CD w W → ∀ gs, Blk W gs 121 #[stepV w.heap.size (w.heap.size + 1) (w.heap.size + 1 + 1) (w.heap.size + 1 + 1 + 1) L.g 0, stepV w.heap.size (w.heap.size + 1) (w.heap.size + 1 + 1) (w.heap.size + 1 + 1 + 1) L.g 1, stepV w.heap.size (w.heap.size + 1) (w.heap.size + 1 + 1) (w.heap.size + 1 + 1 + 1) L.g 2, stepV w.heap.size (w.heap.size + 1) (w.heap.size + 1 + 1) (w.heap.size + 1 + 1 + 1) L.g 3] → ¬ CD gs → Boxes W CD w.heap.size (w.heap.size + 1) (w.heap.size + 1 + 1) (w.heap.size + 1 + 1 + 1) G N g b.length I (.slice ax (b.drop (I * 128)).length cx) → OD W L CD s → Calls Tryz.prog 87 #[.pointer (some ⟨G, 0, none⟩), .slice (some ⟨gs, 0, none⟩) 4 4] W fun e w' => e = .returned (.int .i64 R.1) ∧ OD w' L (Fr CD W w') R.2 ∧ LogB w' G L.g size n gen len bg (decide (R.1 ≠ 0)) (.slice ta tl tc) ∧ Chg (fun q => CD q ∨ q = G) W w') := fun W hW gs h1 h2 h3 h4 => by
    rw [hR]
    exact change_any (Blk.chg h hW hG) h4 hG h3 b (by omega) ⟨hx.1.chg hW hx.2, hx.2⟩ hsz hI F hF hN hg (by omega) 121 h1 h2
  have HXL : Hid ((b.drop (I * 128)).length = b.length - I * 128) := List.length_drop ..
  obtain ⟨LB, hLB⟩ : ∃ LB, LB = (b.drop (I * 128)).length := ⟨_, rfl⟩
  rw [← hLB] at HCH HXL
  have HX : Hid (SegA w (fun q => CD q ∨ q = G) (.slice ax LB cx) (b.drop (I * 128))) := by show SegA _ _ _ _; rw [hLB]; exact ⟨hx.1, fun h0 q hq e => by rcases e with e | e; exact hx.2 h0 q hq e; exact hxG h0 q hq e⟩
  rw [← hLB]
  clear hLB hx hR hxG
  have hB4 := ((((Below.refl w.heap.size w).alloc (Nat.le_refl _) (.cells #[.pointer (some ⟨G, 0, none⟩)] 66)).alloc (by simp) (.cells #[.int .i64 (N : Int), .int .i64 (g : Int), .int .i64 (b.length : Int)] 93)).alloc (by simp; omega) (.cells #[.int .i64 (I : Int)] 3)).alloc (by simp; omega) (.cells #[.slice ax LB cx] 34)
  have kl : Blk ((((w.alloc (.cells #[.pointer (some ⟨G, 0, none⟩)] 66)).alloc (.cells #[.int .i64 (N : Int), .int .i64 (g : Int), .int .i64 (b.length : Int)] 93)).alloc (.cells #[.int .i64 (I : Int)] 3)).alloc (.cells #[.slice ax LB cx] 34)) w.heap.size 66 #[.pointer (some ⟨G, 0, none⟩)] := (((Blk.new w _ _).alloc _).alloc _).alloc _
  have kn : Blk ((((w.alloc (.cells #[.pointer (some ⟨G, 0, none⟩)] 66)).alloc (.cells #[.int .i64 (N : Int), .int .i64 (g : Int), .int .i64 (b.length : Int)] 93)).alloc (.cells #[.int .i64 (I : Int)] 3)).alloc (.cells #[.slice ax LB cx] 34)) (w.heap.size + 1) 93 #[.int .i64 (N : Int), .int .i64 (g : Int), .int .i64 (b.length : Int)] := ((Blk.newAt _ _ _ _ (by simp)).alloc _).alloc _
  have ki : Blk ((((w.alloc (.cells #[.pointer (some ⟨G, 0, none⟩)] 66)).alloc (.cells #[.int .i64 (N : Int), .int .i64 (g : Int), .int .i64 (b.length : Int)] 93)).alloc (.cells #[.int .i64 (I : Int)] 3)).alloc (.cells #[.slice ax LB cx] 34)) (w.heap.size + 1 + 1) 3 #[.int .i64 (I : Int)] := (Blk.newAt _ _ _ _ (by simp)).alloc _
  have kb : Blk ((((w.alloc (.cells #[.pointer (some ⟨G, 0, none⟩)] 66)).alloc (.cells #[.int .i64 (N : Int), .int .i64 (g : Int), .int .i64 (b.length : Int)] 93)).alloc (.cells #[.int .i64 (I : Int)] 3)).alloc (.cells #[.slice ax LB cx] 34)) (w.heap.size + 1 + 1 + 1) 34 #[.slice ax LB cx] := Blk.newAt _ _ _ _ (by simp)
  have hn : ∀ {k : Nat}, w.heap.size ≤ k → ¬ CD k := fun hk e => by have := hlt _ e; omega
  go_enter Tryz.func55, Tryz.ntmps55
  go_wp2_with fail
  generalize (((w.alloc (.cells #[.pointer (some ⟨G, 0, none⟩)] 66)).alloc (.cells #[.int .i64 (N : Int), .int .i64 (g : Int), .int .i64 (b.length : Int)] 93)).alloc (.cells #[.int .i64 (I : Int)] 3)).alloc (.cells #[.slice ax LB cx] 34) = W1 at *
  have hc1 : Chg CD w W1 := Chg.of_below hB4 (Nat.le_refl _)
  have hX1 : Boxes W1 CD w.heap.size (w.heap.size + 1) (w.heap.size + 1 + 1) (w.heap.size + 1 + 1 + 1) G N g b.length I (.slice ax LB cx) := ⟨kl, kn, ki, kb, hn (by omega), hn (by omega), hn (by omega), hn (by omega)⟩
  have hL1 := Blk.chg h hc1 hG
  have hD1 := hD.after hB4
  have HCE : Hid (∀ W : World, Below W1.heap.size W1 W → W.cell? ⟨w.heap.size, 0, none⟩ = some (.pointer (some ⟨G, 0, none⟩)) ∧ W.cell? ⟨G, 0, none⟩ = some (.pointer (some ⟨L.g, 0, none⟩))) := fun W hW => ⟨(kl.below hW kl.lt).cell rfl, (Blk.below hL1 hW (Blk.lt hL1)).cell (j := 0) rfl⟩
  have hS0 := HCE.out W1.drew ((Below.refl _ _).drew)
  have s1 : w.heap.size + 4 ≤ W1.heap.size := by have := kb.lt; omega
  clear h hD kl kn ki kb
  refine held_begin (fun V => V.cell? ⟨w.heap.size, 0, none⟩ = some (.pointer (some ⟨G, 0, none⟩)) ∧ V.cell? ⟨G, 0, none⟩ = some (.pointer (some ⟨L.g, 0, none⟩))) (by kernel_rfl) ?_
  refine held_take 0 14 _ (.pointer (some ⟨G, 0, none⟩)) rfl rfl (by kernel_rfl) (by kernel_rfl) (by kernel_rfl) rfl hS0 (fun V hV => exec_loadc 66 _ rfl _ _ rfl (load_one 66 (fun _ => by kernel_rfl) V _ _ _ hV.1)) ?_
  simp only [Act.put, List.setIfInBounds_toArray, List.set_cons_succ, List.set_cons_zero]
  refine held_take 1 15 _ (.func (.func 80) #[] #[.pointer (some ⟨w.heap.size, 0, none⟩), .pointer (some ⟨w.heap.size + 1, 0, none⟩), .pointer (some ⟨w.heap.size + 1 + 1, 0, none⟩), .pointer (some ⟨w.heap.size + 1 + 1 + 1, 0, none⟩)]) rfl rfl (by kernel_rfl) (by kernel_rfl) (by kernel_rfl) rfl hS0 (fun _ _ => rfl) ?_
  simp only [Act.put, List.setIfInBounds_toArray, List.set_cons_succ, List.set_cons_zero]
  refine held_take 2 16 _ (.pointer (some ⟨G, 0, none⟩)) rfl rfl (by kernel_rfl) (by kernel_rfl) (by kernel_rfl) rfl hS0 (fun V hV => exec_loadc 66 _ rfl _ _ rfl (load_one 66 (fun _ => by kernel_rfl) V _ _ _ hV.1)) ?_
  simp only [Act.put, List.setIfInBounds_toArray, List.set_cons_succ, List.set_cons_zero]
  refine held_take 3 17 _ (.pointer (some ⟨G, 0, none⟩)) rfl rfl (by kernel_rfl) (by kernel_rfl) (by kernel_rfl) rfl hS0 (fun _ _ => rfl) ?_
  simp only [Act.put, List.setIfInBounds_toArray, List.set_cons_succ, List.set_cons_zero]
  refine held_take 4 18 _ (.pointer (some ⟨G, 0, none⟩)) rfl rfl (by kernel_rfl) (by kernel_rfl) (by kernel_rfl) rfl hS0 (fun _ _ => rfl) ?_
  simp only [Act.put, List.setIfInBounds_toArray, List.set_cons_succ, List.set_cons_zero]
  refine held_take 5 19 _ (.pointer (some ⟨L.g, 0, none⟩)) rfl rfl (by kernel_rfl) (by kernel_rfl) (by kernel_rfl) rfl hS0 (fun V hV => exec_loadc 25 _ rfl _ _ rfl (load_one 25 (fun _ => by kernel_rfl) V _ _ _ hV.2)) ?_
  simp only [Act.put, List.setIfInBounds_toArray, List.set_cons_succ, List.set_cons_zero]
  refine held_take 6 20 _ (.func (.func 88) #[.pointer (some ⟨L.g, 0, none⟩)] #[]) rfl rfl (by kernel_rfl) (by kernel_rfl) (by kernel_rfl) rfl hS0 (fun _ _ => exec_make1 _ _ rfl _ rfl) ?_
  simp only [Act.put, List.setIfInBounds_toArray, List.set_cons_succ, List.set_cons_zero]
  refine held_take 7 21 _ (.func (.func 83) #[] #[.pointer (some ⟨w.heap.size, 0, none⟩), .pointer (some ⟨w.heap.size + 1, 0, none⟩)]) rfl rfl (by kernel_rfl) (by kernel_rfl) (by kernel_rfl) rfl hS0 (fun _ _ => rfl) ?_
  simp only [Act.put, List.setIfInBounds_toArray, List.set_cons_succ, List.set_cons_zero]
  refine held_take 8 22 _ (.pointer (some ⟨G, 0, none⟩)) rfl rfl (by kernel_rfl) (by kernel_rfl) (by kernel_rfl) rfl hS0 (fun V hV => exec_loadc 66 _ rfl _ _ rfl (load_one 66 (fun _ => by kernel_rfl) V _ _ _ hV.1)) ?_
  simp only [Act.put, List.setIfInBounds_toArray, List.set_cons_succ, List.set_cons_zero]
  refine held_take 9 23 _ (.pointer (some ⟨G, 0, none⟩)) rfl rfl (by kernel_rfl) (by kernel_rfl) (by kernel_rfl) rfl hS0 (fun _ _ => rfl) ?_
  simp only [Act.put, List.setIfInBounds_toArray, List.set_cons_succ, List.set_cons_zero]
  refine held_take 10 24 _ (.pointer (some ⟨G, 0, none⟩)) rfl rfl (by kernel_rfl) (by kernel_rfl) (by kernel_rfl) rfl hS0 (fun _ _ => rfl) ?_
  simp only [Act.put, List.setIfInBounds_toArray, List.set_cons_succ, List.set_cons_zero]
  refine held_take 11 25 _ (.pointer (some ⟨L.g, 0, none⟩)) rfl rfl (by kernel_rfl) (by kernel_rfl) (by kernel_rfl) rfl hS0 (fun V hV => exec_loadc 25 _ rfl _ _ rfl (load_one 25 (fun _ => by kernel_rfl) V _ _ _ hV.2)) ?_
  simp only [Act.put, List.setIfInBounds_toArray, List.set_cons_succ, List.set_cons_zero]
  refine held_take 12 26 _ (.func (.func 88) #[.pointer (some ⟨L.g, 0, none⟩)] #[]) rfl rfl (by kernel_rfl) (by kernel_rfl) (by kernel_rfl) rfl hS0 (fun _ _ => exec_make1 _ _ rfl _ rfl) ?_
  simp only [Act.put, List.setIfInBounds_toArray, List.set_cons_succ, List.set_cons_zero]
  have hbG : Below W1.heap.size W1 (W1.drew.alloc (.cells #[stepV w.heap.size (w.heap.size + 1) (w.heap.size + 1 + 1) (w.heap.size + 1 + 1 + 1) L.g 0, stepV w.heap.size (w.heap.size + 1) (w.heap.size + 1 + 1) (w.heap.size + 1 + 1 + 1) L.g 1, stepV w.heap.size (w.heap.size + 1) (w.heap.size + 1 + 1) (w.heap.size + 1 + 1 + 1) L.g 2, stepV w.heap.size (w.heap.size + 1) (w.heap.size + 1 + 1) (w.heap.size + 1 + 1 + 1) L.g 3] 121)) := ((Below.refl _ W1).drew).alloc (Nat.le_refl _) _
  have hkG : Blk (W1.drew.alloc (.cells #[stepV w.heap.size (w.heap.size + 1) (w.heap.size + 1 + 1) (w.heap.size + 1 + 1 + 1) L.g 0, stepV w.heap.size (w.heap.size + 1) (w.heap.size + 1 + 1) (w.heap.size + 1 + 1 + 1) L.g 1, stepV w.heap.size (w.heap.size + 1) (w.heap.size + 1 + 1) (w.heap.size + 1 + 1 + 1) L.g 2, stepV w.heap.size (w.heap.size + 1) (w.heap.size + 1 + 1) (w.heap.size + 1 + 1 + 1) L.g 3] 121)) W1.heap.size 121 #[stepV w.heap.size (w.heap.size + 1) (w.heap.size + 1 + 1) (w.heap.size + 1 + 1 + 1) L.g 0, stepV w.heap.size (w.heap.size + 1) (w.heap.size + 1 + 1) (w.heap.size + 1 + 1 + 1) L.g 1, stepV w.heap.size (w.heap.size + 1) (w.heap.size + 1 + 1) (w.heap.size + 1 + 1 + 1) L.g 2, stepV w.heap.size (w.heap.size + 1) (w.heap.size + 1 + 1) (w.heap.size + 1 + 1 + 1) L.g 3] := Blk.new W1.drew _ _
  have hS1 := HCE.out _ hbG
  refine held_all1 13 (by kernel_rfl) (op_value 13 27 _ (.slice (some ⟨W1.heap.size, 0, none⟩) 4 4) (W1.drew.alloc (.cells #[stepV w.heap.size (w.heap.size + 1) (w.heap.size + 1 + 1) (w.heap.size + 1 + 1 + 1) L.g 0, stepV w.heap.size (w.heap.size + 1) (w.heap.size + 1 + 1) (w.heap.size + 1 + 1 + 1) L.g 1, stepV w.heap.size (w.heap.size + 1) (w.heap.size + 1 + 1) (w.heap.size + 1 + 1 + 1) L.g 2, stepV w.heap.size (w.heap.size + 1) (w.heap.size + 1 + 1) (w.heap.size + 1 + 1 + 1) L.g 3] 121)) rfl rfl rfl (exec_funcs _ _ _ _ rfl _ _ _ _ _ _ _ _ _ _ _ _ rfl rfl rfl rfl) ⟨hS1, ?_⟩)
  simp only [Act.put, List.setIfInBounds_toArray, List.set_cons_succ, List.set_cons_zero]
  have HCH2 := HCH.out _ (hc1.trans (Chg.of_below (S := CD) hbG (Nat.le_refl _)) (fun _ _ h => h)) W1.heap.size hkG (hn (by omega)) (hX1.chg (S := fun _ => False) (Chg.of_below hbG (Nat.le_refl _)) (fun _ h => h.elim)) (hD1.after hbG)
  refine held_all1 14 (by kernel_rfl) (op_call 14 28 _ 87 #[.pointer (some ⟨G, 0, none⟩), .slice (some ⟨W1.heap.size, 0, none⟩) 4 4] rfl rfl rfl (exec_two8 87 _ _ _ rfl _ _ rfl rfl Tryz.call87) (HCH2.mono ?_))
  rintro e W3 ⟨rfl, hO3, hL3, hc3⟩
  have hC3 : Chg (fun q => CD q ∨ q = G) W1 W3 := (Chg.of_below (S := fun q => CD q ∨ q = G) hbG (Nat.le_refl _)).trans hc3 (fun _ _ h => h)
  have hX3 := hX1.chgG hC3 (fun q hq => hq) (by omega)
  have hS3 : W3.cell? ⟨w.heap.size, 0, none⟩ = some (.pointer (some ⟨G, 0, none⟩)) ∧ W3.cell? ⟨G, 0, none⟩ = some (.pointer (some ⟨L.g, 0, none⟩)) := ⟨hX3.l.cell rfl, hL3.cell (j := 0) rfl⟩
  refine ⟨_, rfl, hS3, ?_⟩
  simp only [Act.put, List.setIfInBounds_toArray, List.set_cons_succ, List.set_cons_zero]
  refine held_all1 15 (by kernel_rfl) (op_value 15 11 _ (.int .i64 R.1) W3 rfl rfl rfl (rfl) ⟨hS3, ?_⟩)
  simp only [Act.put, List.setIfInBounds_toArray, List.set_cons_succ, List.set_cons_zero]
  refine wpAnyH_done (by kernel_rfl) ?_ _
  refine NoPanic.normal ?_
  have hsV : w.heap.size ≤ (W1.drew.alloc (.cells #[stepV w.heap.size (w.heap.size + 1) (w.heap.size + 1 + 1) (w.heap.size + 1 + 1 + 1) L.g 0, stepV w.heap.size (w.heap.size + 1) (w.heap.size + 1 + 1) (w.heap.size + 1 + 1 + 1) L.g 1, stepV w.heap.size (w.heap.size + 1) (w.heap.size + 1 + 1) (w.heap.size + 1 + 1 + 1) L.g 2, stepV w.heap.size (w.heap.size + 1) (w.heap.size + 1 + 1) (w.heap.size + 1 + 1 + 1) L.g 3] 121)).heap.size := Nat.le_trans (by omega) hbG.size
  have hCw : Chg (fun q => CD q ∨ q = G) w W3 := (hc1.weaken (fun _ h => .inl h)).trans hC3 (fun _ _ h => h)
  generalize W1.drew.alloc (.cells #[stepV w.heap.size (w.heap.size + 1) (w.heap.size + 1 + 1) (w.heap.size + 1 + 1 + 1) L.g 0, stepV w.heap.size (w.heap.size + 1) (w.heap.size + 1 + 1) (w.heap.size + 1 + 1 + 1) L.g 1, stepV w.heap.size (w.heap.size + 1) (w.heap.size + 1 + 1) (w.heap.size + 1 + 1 + 1) L.g 2, stepV w.heap.size (w.heap.size + 1) (w.heap.size + 1 + 1) (w.heap.size + 1 + 1 + 1) L.g 3] 121) = V at *
  have hCA : ∀ q, Fr CD V W3 q → CD q ∨ w.heap.size ≤ q := fun q hq => by rcases hq with h | h; exact .inl h; exact .inr (Nat.le_trans hsV h.1)
  have hCB : ∀ q, q < w.heap.size → ¬ CD q → ¬ Fr CD V W3 q := fun q hq h1 h2 => by rcases h2 with h | h; exact h1 h; omega
  clear HCH HCH2 HCE hS0 hS1 hS3 hkG hX1 hD1 hL1 hbG hc3 hC3 hB4
  obtain ⟨E, t2⟩ := R
  dsimp only at hO3 hL3 ⊢
  by_cases hE : E = 0
  · have b1 : (E != 0) = false := by rw [hE]; rfl
    have hdE : decide (E ≠ 0) = false := by rw [hE]; rfl
    rw [hdE] at hL3
    have HE : Hid (E = 0) := hE
    clear hE hdE
    have hx : Blk W3 G 95 (logC L.g size n gen len bg false (.slice ta tl tc)) := hL3
    unfold logC at hx
    have x2 := hx.cell (j := 2) rfl
    have x3 := hx.cell (j := 3) rfl
    have x4 := hx.cell (j := 4) rfl
    have f2 := hx.frozen 2
    have f3 := hx.frozen 3
    have f4 := hx.frozen 4
    have kl := hX3.l.cell (j := 0) rfl
    have kn0 := hX3.n.cell (j := 0) rfl
    have kn1 := hX3.n.cell (j := 1) rfl
    have kn2 := hX3.n.cell (j := 2) rfl
    have hne1 : w.heap.size + 1 ≠ G := by omega
    have hL4 : LogB (((W3.setCell ⟨G, 2, none⟩ (.int .i64 (N : Int))).setCell ⟨G, 3, none⟩ (.int .i64 (g : Int))).setCell ⟨G, 4, none⟩ (.int .i64 (b.length : Int))) G L.g size N g b.length bg false (.slice ta tl tc) := (((hx.set 2 _).set 3 _).set 4 _).of_eq rfl
    have hc4 : Chg (fun q => q = G) W3 (((W3.setCell ⟨G, 2, none⟩ (.int .i64 (N : Int))).setCell ⟨G, 3, none⟩ (.int .i64 (g : Int))).setCell ⟨G, 4, none⟩ (.int .i64 (b.length : Int))) := (((Chg.refl (fun q => q = G) W3).setCell G 2 _ (fun _ => rfl)).setCell G 3 _ (fun _ => rfl)).setCell G 4 _ (fun _ => rfl)
    go_wp2_with fail
    generalize ((W3.setCell ⟨G, 2, none⟩ (.int .i64 (N : Int))).setCell ⟨G, 3, none⟩ (.int .i64 (g : Int))).setCell ⟨G, 4, none⟩ (.int .i64 (b.length : Int)) = W4 at *
    clear x2 x3 x4 f2 f3 f4 kl kn0 kn1 kn2 hx
    have hO4 : OD W4 L (Fr CD V W3) t2 := hO3.chg hc4 (fun q hq e => by subst e; exact hCB q hGl hG hq)
    have hX4 := hX3.chgG hc4 (fun q hq => .inr hq) (by omega)
    have hC4 : Chg (fun q => CD q ∨ q = G) w W4 := hCw.trans hc4 (fun _ _ h => .inr h)
    have hL4' : LogB W4.drew G L.g size N g b.length bg false (.slice ta tl tc) := Blk.drew hL4
    obtain ⟨RM, hRM⟩ : ∃ RM, RM = b.length % 128 := ⟨_, rfl⟩
    have hxl := HXL.out
    obtain ⟨LO, hLO⟩ : ∃ LO, LO = LB - RM := ⟨_, rfl⟩
    have HRM : Hid (Int.tmod (b.length : Int) 128 = (RM : Int)) := by show _ = _; rw [Int.tmod_eq_emod_of_nonneg (by omega)]; omega
    have HLO : Hid ((LB : Int) - (RM : Int) = (LO : Int) ∧ -9223372036854775808 ≤ (LO : Int) ∧ (LO : Int) < 9223372036854775808) := by refine ⟨?_, ?_, ?_⟩ <;> omega
    have l7 := slice_restD ax LB cx LO (by omega)
    have hsg : Seg W4.drew (.slice ax LB cx) (b.drop (I * 128)) := (HX.out.1.chg hC4 HX.out.2).drew
    have hdr : (b.drop (I * 128)).drop LO = b.drop (b.length / 128 * 128) := by rw [List.drop_drop]; congr 1; omega
    have hs7 := hsg.dropsD LO (by omega)
    rw [hdr] at hs7
    have HCL : Calls Tryz.prog 42 #[.slice (restD ax cx LO) (LB - LO) (cx - LO)] W4.drew fun e w' => ∃ v, e = .returned v ∧ Own w' W4.drew.heap.size v (b.drop (b.length / 128 * 128)) ∧ Below W4.drew.heap.size W4.drew w' := bclone_any _ _ _ (by rw [List.length_drop]; omega) hs7
    have HT : Hid (∀ W : World, Below W4.drew.heap.size W4.drew W → W.cell? ⟨w.heap.size, 0, none⟩ = some (.pointer (some ⟨G, 0, none⟩)) ∧ W.cell? ⟨w.heap.size + 1 + 1 + 1, 0, none⟩ = some (.slice ax LB cx) ∧ W.cell? ⟨w.heap.size + 1, 2, none⟩ = some (.int .i64 (b.length : Int))) := fun W hW => ⟨(hX4.l.drew.below hW hX4.l.lt).cell rfl, (hX4.b.drew.below hW hX4.b.lt).cell rfl, (hX4.n.drew.below hW hX4.n.lt).cell rfl⟩
    have hT0 := HT.out W4.drew (Below.refl _ _)
    have HT6 : Hid (∀ (W : World) (v : Value), (W.cell? ⟨w.heap.size, 0, none⟩ = some (.pointer (some ⟨G, 0, none⟩)) ∧ W.cell? ⟨w.heap.size + 1 + 1 + 1, 0, none⟩ = some (.slice ax LB cx) ∧ W.cell? ⟨w.heap.size + 1, 2, none⟩ = some (.int .i64 (b.length : Int))) → (W.setCell ⟨G, 7, none⟩ v).cell? ⟨w.heap.size, 0, none⟩ = some (.pointer (some ⟨G, 0, none⟩)) ∧ (W.setCell ⟨G, 7, none⟩ v).cell? ⟨w.heap.size + 1 + 1 + 1, 0, none⟩ = some (.slice ax LB cx) ∧ (W.setCell ⟨G, 7, none⟩ v).cell? ⟨w.heap.size + 1, 2, none⟩ = some (.int .i64 (b.length : Int))) := fun W v hW => by
      have k : ∀ q o, G < q → (W.setCell ⟨G, 7, none⟩ v).cell? ⟨q, o, none⟩ = W.cell? ⟨q, o, none⟩ := fun q o hq => World.cell?_of_block (Below.heap_setCell W ⟨G, 7, none⟩ v q (by show q ≠ G; omega))
      exact ⟨by rw [k _ _ (by omega)]; exact hW.1, by rw [k _ _ (by omega)]; exact hW.2.1, by rw [k _ _ (by omega)]; exact hW.2.2⟩
    generalize restD ax cx LO = ra at *
    clear hxl hLO hRM hdr hs7 hsg
    refine held_begin (fun V => V.cell? ⟨w.heap.size, 0, none⟩ = some (.pointer (some ⟨G, 0, none⟩)) ∧ V.cell? ⟨w.heap.size + 1 + 1 + 1, 0, none⟩ = some (.slice ax LB cx) ∧ V.cell? ⟨w.heap.size + 1, 2, none⟩ = some (.int .i64 (b.length : Int))) (by kernel_rfl) ?_
    refine held_take 0 36 _ (.pointer (some ⟨G, 0, none⟩)) rfl rfl (by kernel_rfl) (by kernel_rfl) (by kernel_rfl) rfl hT0 (fun V hV => exec_loadc 66 _ rfl _ _ rfl (load_one 66 (fun _ => by kernel_rfl) V _ _ _ hV.1)) ?_
    simp only [Act.put, List.setIfInBounds_toArray, List.set_cons_succ, List.set_cons_zero]
    refine held_take 1 37 _ (.slice ax LB cx) rfl rfl (by kernel_rfl) (by kernel_rfl) (by kernel_rfl) rfl hT0 (fun V hV => exec_loadc 34 _ rfl _ _ rfl (load_one 34 (fun _ => by kernel_rfl) V _ _ _ hV.2.1)) ?_
    simp only [Act.put, List.setIfInBounds_toArray, List.set_cons_succ, List.set_cons_zero]
    refine held_take 2 38 _ (.slice ax LB cx) rfl rfl (by kernel_rfl) (by kernel_rfl) (by kernel_rfl) rfl hT0 (fun V hV => exec_loadc 34 _ rfl _ _ rfl (load_one 34 (fun _ => by kernel_rfl) V _ _ _ hV.2.1)) ?_
    simp only [Act.put, List.setIfInBounds_toArray, List.set_cons_succ, List.set_cons_zero]
    refine held_take 3 39 _ (.int .i64 (LB : Int)) rfl rfl (by kernel_rfl) (by kernel_rfl) (by kernel_rfl) rfl hT0 (fun V _ => exec_len _ rfl ax LB cx rfl) ?_
    simp only [Act.put, List.setIfInBounds_toArray, List.set_cons_succ, List.set_cons_zero]
    refine held_take 4 40 _ (.pointer (some ⟨w.heap.size + 1, 2, none⟩)) rfl rfl (by kernel_rfl) (by kernel_rfl) (by kernel_rfl) rfl hT0 (fun _ _ => rfl) ?_
    simp only [Act.put, List.setIfInBounds_toArray, List.set_cons_succ, List.set_cons_zero]
    refine held_take 5 41 _ (.int .i64 (b.length : Int)) rfl rfl (by kernel_rfl) (by kernel_rfl) (by kernel_rfl) rfl hT0 (fun V hV => exec_loadc 3 _ rfl _ _ rfl (load_one 3 (fun _ => by kernel_rfl) V _ _ _ hV.2.2)) ?_
    simp only [Act.put, List.setIfInBounds_toArray, List.set_cons_succ, List.set_cons_zero]
    refine held_take 6 42 _ (.int .i64 (RM : Int)) rfl rfl (by kernel_rfl) (by kernel_rfl) (by kernel_rfl) rfl hT0 (fun V _ => exec_rem7 _ _ _ rfl (b.length : Int) 128 _ rfl rfl (by decide) HRM.out) ?_
    simp only [Act.put, List.setIfInBounds_toArray, List.set_cons_succ, List.set_cons_zero]
    refine held_take 7 43 _ (.int .i64 (LO : Int)) rfl rfl (by kernel_rfl) (by kernel_rfl) (by kernel_rfl) rfl hT0 (fun V _ => exec_sub7 _ _ _ rfl (LB : Int) (RM : Int) _ rfl rfl HLO.out) ?_
    simp only [Act.put, List.setIfInBounds_toArray, List.set_cons_succ, List.set_cons_zero]
    refine held_take 8 44 _ (.slice ra (LB - LO) (cx - LO)) rfl rfl (by kernel_rfl) (by kernel_rfl) (by kernel_rfl) rfl hT0 (fun V _ => exec_slice7 _ _ _ _ rfl (.slice ax LB cx) _ (some (.int .i64 (LO : Int))) none none rfl rfl rfl rfl (l7 V)) ?_
    simp only [Act.put, List.setIfInBounds_toArray, List.set_cons_succ, List.set_cons_zero]
    refine held_all1 9 (by kernel_rfl) (op_call 9 45 _ 42 #[.slice ra (LB - LO) (cx - LO)] rfl rfl rfl (exec_one 42 _ _ rfl _ rfl Tryz.call42) (HCL.mono ?_))
    rintro e W5 ⟨v45, rfl, ho45, hb45⟩
    obtain ⟨a45, c45, rfl⟩ := Seg.shapeD ho45.seg
    obtain ⟨n45, hn45⟩ : ∃ n45, n45 = (b.drop (b.length / 128 * 128)).length := ⟨_, rfl⟩
    rw [← hn45] at ho45 ⊢
    clear hn45
    have hT5 := HT.out W5 hb45
    have hL5 := Blk.below hL4' hb45 (Blk.lt hL4')
    have x7 : W5.cell? ⟨G, 7, none⟩ = some (.slice ta tl tc) := hL5.cell (j := 7) rfl
    have f7 := Blk.frozen hL5 7
    refine ⟨_, rfl, hT5, ?_⟩
    simp only [Act.put, List.setIfInBounds_toArray, List.set_cons_succ, List.set_cons_zero]
    refine held_take 10 46 _ (.pointer (some ⟨G, 0, none⟩)) rfl rfl (by kernel_rfl) (by kernel_rfl) (by kernel_rfl) rfl hT5 (fun _ _ => rfl) ?_
    simp only [Act.put, List.setIfInBounds_toArray, List.set_cons_succ, List.set_cons_zero]
    refine held_take 11 47 _ (.pointer (some ⟨G, 7, none⟩)) rfl rfl (by kernel_rfl) (by kernel_rfl) (by kernel_rfl) rfl hT5 (fun _ _ => rfl) ?_
    simp only [Act.put, List.setIfInBounds_toArray, List.set_cons_succ, List.set_cons_zero]
    have hT6 := HT6.out W5 (.slice a45 n45 c45) hT5
    refine held_all1 12 (by kernel_rfl) (op_skip 12 _ _ rfl rfl rfl (exec_stores _ _ rfl G 7 a45 n45 c45 _ rfl rfl x7 f7) ⟨hT6, ?_⟩)
    refine wpAnyH_done (by kernel_rfl) ?_ _
    refine NoPanic.normal ?_
    go_wp2_with fail
    go_ret
    dsimp only
    have hc6 : Chg (fun q => q = G) W5 (W5.setCell ⟨G, 7, none⟩ (.slice a45 n45 c45)) := (Chg.refl (fun q => q = G) W5).setCell G 7 _ (fun _ => rfl)
    have hO5 : OD W5 L (Fr CD V W3) t2 := (hO4.after ((Below.refl _ W4).drew)).after hb45
    have hL6 : LogB (W5.setCell ⟨G, 7, none⟩ (.slice a45 n45 c45)) G L.g size N g b.length bg false (.slice a45 n45 c45) := (Blk.set hL5 7 _).of_eq rfl
    refine ⟨by rw [HE.out]; rfl, Fr CD V W3, hO5.chg hc6 (fun q hq e => by subst e; exact hCB q hGl hG hq), hCA, hCB, (hC4.drew.trans (Chg.of_below (S := fun q => CD q ∨ q = G) hb45 (Nat.le_refl _)) (fun _ _ h => h)).trans hc6 (fun _ _ h => .inr h), .inr ⟨HE.out, .slice a45 n45 c45, hL6, ?_, ?_⟩⟩
    · have := ho45.chg hc6 (fun k hk e => by have h1 := (ho45.blocks k hk).1; have h2 : G < W4.drew.heap.size := Blk.lt hL4'; omega)
      exact this.mono (Nat.le_trans hC4.size (Nat.le_refl _))
    · intro q hq e
      have h1 := (ho45.blocks q hq).1
      have h2 : W3.heap.size ≤ W4.drew.heap.size := hc4.size
      rcases e with e | e
      · have := hlt q e
        have := hCw.size
        omega
      · omega
  · have b1 : (E != 0) = true := by simp [hE]
    have hdE : decide (E ≠ 0) = true := decide_eq_true hE
    rw [hdE] at hL3
    have HE : Hid (E ≠ 0) := hE
    clear hE hdE
    go_wp2_with fail
    go_ret
    exact ⟨rfl, Fr CD V W3, hO3, hCA, hCB, hCw, .inl ⟨HE.out, hL3⟩⟩
end Go.Proofs.YtbegphfideopoaaGreat
namespace Go.Proofs.YtbegphfideopoaaGreat
open Go.RowKit

set_option maxRecDepth 100000 in
set_option maxHeartbeats 2000000 in
theorem stateP_any (x : Value) (st : List UInt8) (w : World) (hS : Seg w x st) (hm : st.length ≤ 1000000) :
    Calls Tryz.prog 56 #[x] w fun e w' => ∃ v, e = .returned v ∧ Own w' w.heap.size v (stateB st) ∧ Below w.heap.size w w' := by
  obtain ⟨ax, cx, rfl⟩ := Seg.shapeD hS
  have HSZ : Hid (Calls Tryz.prog 53 #[.slice ax st.length cx] w fun e w' => e = .returned (.int .i64 ((stateB st).length : Int)) ∧ w' = w) := stateSz_any _ st w hS (by omega)
  have hsl : (stateB st).length ≤ 1100000 := by rw [stateB_len]; omega
  obtain ⟨SB, hSB⟩ : ∃ SB, SB = stateB st := ⟨_, rfl⟩
  rw [← hSB] at HSZ hsl ⊢
  have HST : Hid (SB = partsB st.length st) := hSB
  clear hSB
  obtain ⟨i0, hi, hz0, hz1, hz2⟩ := info_parts Tryz.info5
  obtain ⟨w1, hmk, hO0, hg1⟩ : ∃ w', (Instr.makeSlice 34 (.int .i64 0) (.int .i64 (SB.length : Int))).run Tryz.prog w = .ok (.slice (some ⟨w.heap.size, 0, none⟩) 0 SB.length) w' ∧ Own w' w.heap.size (.slice (some ⟨w.heap.size, 0, none⟩) 0 SB.length) [] ∧ w.grownBy w' none := run_make_own (P := Tryz.prog) w w.heap.size 34 5 i0 (.int .u8 0) 1 Tryz.underlying34 hi hz0 hz1 .i64 .i64 SB.length (by rw [hz2]; omega) (by unfold maxLen; omega) (Nat.le_refl _)
  clear hi hz0 hz1 hz2
  have hB1 : Below w.heap.size w w1 := below_grown (Below.refl _ w) hg1 (Nat.le_refl _) (fun q hq => by cases hq)
  go_enter Tryz.func56, Tryz.ntmps56
  go_wp2_with fail
  refine HSZ.out.mono ?_
  rintro e w2 ⟨rfl, rfl⟩
  clear HSZ
  go_wp2_with fail
  go_loopw [0, 3] (fun sv bv wr => ∃ (n : Nat) (a : Option Addr) (c : Nat) (A B : List UInt8), sv = .slice a B.length c ∧ Seg w2 (.slice a B.length c) B ∧ B.length ≤ n ∧ B.length ≤ 1000000 ∧ SB = A ++ partsB n B ∧ Own wr w2.heap.size bv A ∧ Below w2.heap.size w2 wr) (fun sv _ _ => lenOf8 sv)
  case atStart => exact ⟨st.length, ax, cx, [], st, rfl, hS, Nat.le_refl _, hm, HST.out, hO0, hB1⟩
  case round =>
    obtain ⟨n, a, c, A, B, rfl, hsB, hBn, hBm, hAB, hA, hB⟩ := hrel
    clear hO0 hB1 HST
    have hAl : A.length ≤ 1100000 := by have := congrArg List.length hAB; rw [List.length_append] at this; omega
    obtain ⟨ab, cb, rfl⟩ := Seg.shapeD hA.seg
    have hblk : ∀ q, (Value.slice ab A.length cb).ownBlock = some q → w2.heap.size ≤ q := fun q hq => (hA.blocks q hq).1
    by_cases hgt : 1024 < B.length
    · have j1 : (1024 : Int) < (B.length : Int) := by omega
      obtain ⟨n', rfl⟩ : ∃ n', n = n' + 1 := ⟨n - 1, by omega⟩
      have hp : partsB (n' + 1) B = pieceB 1 (B.take 1024) ++ partsB n' (B.drop 1024) := by show (if 1024 < B.length then _ else _) = _; rw [if_pos hgt]
      have HAB : Hid (SB = (A ++ pieceB 1 (B.take 1024)) ++ partsB n' (B.drop 1024)) := by show _ = _; rw [hAB, hp, List.append_assoc]
      have htk := hsB.takesD 1024 (by omega)
      have hdp := hsB.dropsD 1024 (by omega)
      have l1 := slice_toD a B.length c 1024 htk.2
      have l2 : ∀ w, (Instr.slice 34 (.slice a B.length c) (some (.int .i64 1024)) none none).run Tryz.prog w = .ok (.slice (restD a c 1024) (B.length - 1024) (c - 1024)) w := slice_restD a B.length c 1024 (by omega)
      have hdl : B.length - 1024 = (B.drop 1024).length := by rw [List.length_drop]
      rw [hdl] at hdp l2
      have hlt : (B.drop 1024).length < B.length := by rw [List.length_drop]; omega
      have hn' : (B.drop 1024).length ≤ n' ∧ (B.drop 1024).length ≤ 1000000 := by rw [List.length_drop]; omega
      have hap := appP_any w2.heap.size (.slice ab A.length cb) A 1 (.slice a 1024 c) (B.take 1024) wr (by decide) hA hB.size (by omega) (htk.1.below hB (Nat.le_refl _)) (by rw [List.length_take]; omega) (fun h0 q hq e => by
        have h1 := hblk q e
        have h2 : q < w2.heap.size := by
          rcases htk.1 with ⟨e0, _⟩ | ⟨b', off', c', e0, _, _, hb'⟩
          · rw [e0] at h0; cases h0
          · rw [e0] at hq
            obtain rfl : b' = q := Option.some.inj hq
            exact hb'
        omega)
      have HAP : Hid (Calls Tryz.prog 89 #[.slice ab A.length cb, .int .u8 1, .slice a 1024 c] wr fun e w' => ∃ v', e = .returned v' ∧ Own w' w2.heap.size v' (A ++ pieceB 1 (B.take 1024)) ∧ wr.grownBy w' (Value.slice ab A.length cb).ownBlock ∧ Moved wr (.slice ab A.length cb) v') := hap
      clear hap hAB hp hgt hdl
      generalize B.drop 1024 = BD at *
      generalize restD a c 1024 = ra at *
      generalize c - 1024 = ca at *
      go_wp2_with fail
      refine HAP.out.mono ?_
      rintro e w3 ⟨v3, rfl, ho3, hg3, -⟩
      go_wp2_with fail
      go_roundw
      case rel => exact ⟨n', ra, ca, A ++ pieceB 1 (B.take 1024), BD, rfl, hdp, hn'.1, hn'.2, HAB.out, ho3, below_grown hB hg3 hB.size (fun q hq => hblk q hq)⟩
      case measure => simp only [lenOf8]; exact hlt
    · have j1 : ¬ (1024 : Int) < (B.length : Int) := by omega
      have hp : partsB n B = pieceB 2 B := by
        cases n with
        | zero => rfl
        | succ n' => show (if 1024 < B.length then _ else _) = _; rw [if_neg hgt]
      have HAB : Hid (SB = A ++ pieceB 2 B) := by show _ = _; rw [hAB, hp]
      have HAP : Hid (Calls Tryz.prog 89 #[.slice ab A.length cb, .int .u8 2, .slice a B.length c] wr fun e w' => ∃ v', e = .returned v' ∧ Own w' w2.heap.size v' (A ++ pieceB 2 B) ∧ wr.grownBy w' (Value.slice ab A.length cb).ownBlock ∧ Moved wr (.slice ab A.length cb) v') := appP_any w2.heap.size (.slice ab A.length cb) A 2 (.slice a B.length c) B wr (by decide) hA hB.size (by omega) (hsB.below hB (Nat.le_refl _)) (by omega) (fun h0 q hq e => by
        have h1 := hblk q e
        have h2 : q < w2.heap.size := by
          rcases hsB with ⟨e0, _⟩ | ⟨b', off', c', e0, _, _, hb'⟩
          · rw [e0] at h0; cases h0
          · rw [e0] at hq
            obtain rfl : b' = q := Option.some.inj hq
            exact hb'
        omega)
      clear hAB hp hgt
      go_wp2_with fail
      refine HAP.out.mono ?_
      rintro e w3 ⟨v3, rfl, ho3, hg3, -⟩
      go_wp2_with fail
      go_ret
      rw [HAB.out]
      exact ⟨_, rfl, ho3, below_grown hB hg3 hB.size (fun q hq => hblk q hq)⟩
/-- What it tells of itself. -/
theorem pb_room {w : World} {G : Nat} {L : PLay} {C : Nat → Prop} {s : DS} {l : LS} (h : PB w G L C s l) :
    Calls Tryz.prog 68 #[.pointer (some ⟨G, 0, none⟩)] w fun e w' => e = .returned (.int .i64 (roomW s l)) ∧ Below w.heap.size w w' := by
  obtain ⟨CD, len, bg, tv, tb, h1, h2, h3, h4, h5, h6, h7, h8, h9, h10⟩ := h.body
  obtain ⟨ta, tc, rfl⟩ := Seg.shapeD h4.seg
  have hsz := size_lt h1.d.ok h1.d.lay.max
  have e : (if readyE bg l.broke ≠ 0 then 0 else (sizeS s : Int) - ((len / 128 * 128 + tb.length : Nat) : Int)) = roomW s l := by
    unfold readyE roomW
    cases hk : l.broke with
    | true => rfl
    | false =>
      obtain ⟨e1, e2⟩ := h10 hk
      rw [e1]
      cases hg : l.begun with
      | false => rfl
      | true =>
        obtain ⟨e3, e4⟩ := e2 hg
        have hs := h.sure
        have : tb.length = l.b.length - l.sure / 128 * 128 := by rw [e4, List.length_drop]
        simp only [Bool.false_eq_true, if_false, if_true, ne_eq, not_true, Bool.not_true, Bool.or_false]
        rw [e3]
        omega
  rw [← e]
  exact (room_any h3 (by omega) (by omega) (by omega)).mono fun _ _ ⟨a, k, b⟩ => ⟨a, by rw [b]; exact Below.drewN (Below.refl _ _) k⟩
theorem pb_size {w : World} {G : Nat} {L : PLay} {C : Nat → Prop} {s : DS} {l : LS} (h : PB w G L C s l) :
    Calls Tryz.prog 44 #[.pointer (some ⟨G, 0, none⟩)] w fun e w' => e = .returned (.int .i64 (sizeS s : Int)) ∧ w' = w := by
  obtain ⟨CD, len, bg, tv, tb, h1, h2, h3, h4⟩ := h.body
  exact size_any h3

theorem PB.mono {w : World} {G : Nat} {L : PLay} {C C' : Nat → Prop} {s : DS} {l : LS} (h : PB w G L C s l) (hC : ∀ q, C q → C' q) (hl : ∀ q, C' q → q < w.heap.size) : PB w G L C' s l := by
  obtain ⟨CD, len, bg, tv, tb, h1, h2, h3, h4, h5, h6, h7, h8⟩ := h.body
  exact ⟨⟨CD, len, bg, tv, tb, h1, fun q hq => hC q (h2 q hq), h3, h4, hC G h5, h6, fun q hq => ⟨hC q (h7 q hq).1, (h7 q hq).2⟩, h8⟩, hl, h.n, h.gen, h.b, h.sure, h.one⟩
theorem fr_lt {C : Nat → Prop} {w w' : World} (h : ∀ q, C q → q < w.heap.size) (hs : w.heap.size ≤ w'.heap.size) (q : Nat) (hq : Fr C w w' q) : q < w'.heap.size := by
  rcases hq with hq | hq
  · exact Nat.lt_of_lt_of_le (h q hq) hs
  · exact hq.2
theorem PB.fr {w w' : World} {G : Nat} {L : PLay} {C : Nat → Prop} {s : DS} {l : LS} (h : PB w G L C s l) (hb : Below w.heap.size w w') : PB w' G L (Fr C w w') s l :=
  (h.after hb).mono (fun _ h => .inl h) (fr_lt h.lt hb.size)
set_option maxRecDepth 100000 in
set_option maxHeartbeats 2000000 in
theorem pb_append {w : World} {G : Nat} {L : PLay} {C : Nat → Prop} {s : DS} {l : LS} (h : PB w G L C s l) (x : Value) (bs : List UInt8) (hS : Seg w x bs) (hm : bs.length ≤ 1000000) (hx : 0 < bs.length → ∀ q, x.ownBlock = some q → ¬ C q) :
    Calls Tryz.prog 69 #[.pointer (some ⟨G, 0, none⟩), x] w fun e w' => e = .returned (.int .i64 (appendW s l bs).1) ∧ PB w' G L (Fr C w w') s (appendW s l bs).2 ∧ Chg C w w' := by
  obtain ⟨CD, len, bg, tv, tb, h1, h2, h3, h4, h5, h6, h7, h8, h9, h10⟩ := id h.body
  have HRD : Hid (Calls Tryz.prog 94 #[.pointer (some ⟨G, 0, none⟩)] w fun e w' => e = .returned (.int .i64 (readyE bg l.broke)) ∧ w' = w) := ready_any h3
  obtain ⟨ax, cx, rfl⟩ := Seg.shapeD hS
  obtain ⟨R, hR⟩ : ∃ R, R = appendW s l bs := ⟨_, rfl⟩
  rw [← hR]
  unfold appendW at hR
  have hrefl : PB w G L (Fr C w w) s l := h.fr (Below.refl _ _)
  cases hk : l.broke with
  | true =>
    rw [hk, if_pos rfl] at hR
    rw [hk] at HRD
    have HR : Hid (R = (10, l)) := hR
    have HRD2 : Hid (Calls Tryz.prog 94 #[.pointer (some ⟨G, 0, none⟩)] w fun e w' => e = .returned (.int .i64 10) ∧ w' = w) := HRD
    clear hR hk HRD h10 h3
    go_enter Tryz.func69, Tryz.ntmps69
    go_wp2_with (go_at_call 94; refine HRD2.out.mono ?_; rintro e w1 ⟨rfl, rfl⟩)
    go_ret
    rw [HR.out]
    exact ⟨rfl, hrefl, Chg.refl _ _⟩
  | false =>
    rw [hk, if_neg (by decide)] at hR
    obtain ⟨e1, e2⟩ := h10 hk
    cases hg : l.begun with
    | false =>
      rw [hg, if_pos rfl] at hR
      rw [hk, e1, hg] at HRD
      have HR : Hid (R = (9, l)) := hR
      have HRD2 : Hid (Calls Tryz.prog 94 #[.pointer (some ⟨G, 0, none⟩)] w fun e w' => e = .returned (.int .i64 9) ∧ w' = w) := HRD
      clear hR hk HRD h10 h3 hg e1 e2
      go_enter Tryz.func69, Tryz.ntmps69
      go_wp2_with (go_at_call 94; refine HRD2.out.mono ?_; rintro e w1 ⟨rfl, rfl⟩)
      go_ret
      rw [HR.out]
      exact ⟨rfl, hrefl, Chg.refl _ _⟩
    | true =>
      rw [hg, if_neg (by decide)] at hR
      rw [hk, e1, hg] at HRD
      have HRD2 : Hid (Calls Tryz.prog 94 #[.pointer (some ⟨G, 0, none⟩)] w fun e w' => e = .returned (.int .i64 0) ∧ w' = w) := HRD
      obtain ⟨e3, e4⟩ := e2 hg
      by_cases h4b : 4096 < bs.length
      · rw [if_pos h4b] at hR
        have j4 : (4096 : Int) < (bs.length : Int) := by omega
        have HR : Hid (R = (1, l)) := hR
        clear hR hk HRD h10 h3 hg e1 e2 e3 e4
        go_enter Tryz.func69, Tryz.ntmps69
        go_wp2_with (go_at_call 94; refine HRD2.out.mono ?_; rintro e w1 ⟨rfl, rfl⟩)
        go_ret
        rw [HR.out]
        exact ⟨rfl, hrefl, Chg.refl _ _⟩
      rw [if_neg h4b] at hR
      have j4 : ¬ (4096 : Int) < (bs.length : Int) := by omega
      have HRM : Hid (Calls Tryz.prog 68 #[.pointer (some ⟨G, 0, none⟩)] w fun e w' => e = .returned (.int .i64 (roomW s l)) ∧ Below w.heap.size w w') := pb_room h
      have HPS : Hid (Calls Tryz.prog 96 #[.slice ax bs.length cx] w fun e w' => e = .returned (.int .i64 ((bs.length : Int) + 5)) ∧ w' = w) := pieceSz_any _ bs w hS (by omega)
      have hrw : roomW s l = (sizeS s : Int) - (l.b.length : Int) := by unfold roomW; rw [hk, hg]; rfl
      have hsz := size_lt h1.d.ok h1.d.lay.max
      obtain ⟨RM, hRM⟩ : ∃ RM, RM = roomW s l := ⟨_, rfl⟩
      rw [← hRM] at hR HRM hrw
      by_cases h5b : RM < (bs.length : Int) + 5
      · rw [if_pos h5b] at hR
        have HR : Hid (R = (3, l)) := hR
        clear hR hk HRD h10 h3 hg e1 e2 e3 e4 hRM hrw h4b
        go_enter Tryz.func69, Tryz.ntmps69
        go_wp2_with fail
        refine HRD2.out.mono ?_
        rintro e w1 ⟨rfl, rfl⟩
        go_wp2_with fail
        refine HPS.out.mono ?_
        rintro e w1 ⟨rfl, rfl⟩
        go_wp2_with fail
        refine HRM.out.mono ?_
        rintro e w2 ⟨rfl, hb2⟩
        go_wp2_with fail
        go_ret
        rw [HR.out]
        exact ⟨rfl, h.fr hb2, Chg.of_below hb2 (Nat.le_refl _)⟩
      rw [if_neg h5b] at hR
      have HR : Hid (R = (0, { l with b := l.b ++ pieceB 3 bs })) := by show _ = _; rw [hR, hk, hg]
      have hsu := h.sure
      have hbl := h.b
      have hfit : l.b.length + (bs.length + 5) ≤ 262016 := by omega
      have HFT : Hid (l.b.length + (bs.length + 5) ≤ 262016) := hfit
      have HDR : Hid (tb ++ pieceB 3 bs = (l.b ++ pieceB 3 bs).drop (l.sure / 128 * 128)) := by show _ = _; rw [e4, List.drop_append_of_le_length (by omega)]
      have HK : Hid (l.broke = false ∧ l.begun = true ∧ bg = true ∧ len = l.sure) := ⟨hk, hg, e1.trans hg, e3⟩
      have HLE : Hid ((tb ++ pieceB 3 bs).length ≤ 262016) := by show _ ≤ _; rw [HDR.out, List.length_drop, List.length_append, pieceB_len]; omega
      obtain ⟨ta, tc, rfl⟩ := Seg.shapeD h4.seg
      have HAP : Hid (∀ W : World, Below w.heap.size w W → Calls Tryz.prog 89 #[.slice ta tb.length tc, .int .u8 3, .slice ax bs.length cx] W fun e w' => ∃ v', e = .returned v' ∧ Own w' 0 v' (tb ++ pieceB 3 bs) ∧ W.grownBy w' (Value.slice ta tb.length tc).ownBlock ∧ Moved W (.slice ta tb.length tc) v') := fun W hW => appP_any 0 _ tb 3 _ bs W (by decide) (h4.below hW (Nat.le_refl _)) (Nat.zero_le _) (by omega) (hS.below hW (Nat.le_refl _)) (by omega) (fun h0 q hq e => hx h0 q hq (h7 q e).1)
      clear hR hk HRD h10 hg e1 e2 e3 e4 hRM hrw h4b hbl hsu hfit
      go_enter Tryz.func69, Tryz.ntmps69
      go_wp2_with fail
      refine HRD2.out.mono ?_
      rintro e w1 ⟨rfl, hw1⟩
      obtain rfl := hw1.symm
      clear hw1
      go_wp2_with fail
      refine HPS.out.mono ?_
      rintro e w1 ⟨rfl, hw1⟩
      obtain rfl := hw1.symm
      clear hw1
      go_wp2_with fail
      refine HRM.out.mono ?_
      rintro e w2 ⟨rfl, hb2⟩
      clear HRD2 HPS HRM
      have hL2 := Blk.below h3 hb2 (Blk.lt h3)
      have x7 : w2.cell? ⟨G, 7, none⟩ = some (.slice ta tb.length tc) := hL2.cell (j := 7) rfl
      go_wp2_with fail
      refine (HAP.out w2 hb2).mono ?_
      clear HAP x7
      rintro e w3 ⟨v3, rfl, ho3, hg3, hm3⟩
      have hGl : G < w2.heap.size := Blk.lt hL2
      have hGt : ∀ q, (Value.slice ta tb.length tc).ownBlock = some q → q ≠ G := fun q hq e => by
        obtain ⟨c', f', hcf⟩ := own_cells h4 hq
        rw [e, show _ = _ from h3] at hcf
        cases hcf
      have hL3 : LogB w3 G L.g (sizeS s) l.n l.gen len bg l.broke (.slice ta tb.length tc) := Blk.grown hL2 hg3 (fun e => hGt G e.symm rfl)
      have x7 : w3.cell? ⟨G, 7, none⟩ = some (.slice ta tb.length tc) := hL3.cell (j := 7) rfl
      have f7 := Blk.frozen hL3 7
      obtain ⟨a3, c3, rfl⟩ := Seg.shapeD ho3.seg
      obtain ⟨n3, hn3⟩ : ∃ n3, n3 = (tb ++ pieceB 3 bs).length := ⟨_, rfl⟩
      rw [← hn3] at ho3 hm3 ⊢
      clear hn3
      go_wp2_with fail
      go_ret
      rw [HR.out]
      have hcT : Chg (fun q => q = G ∨ (Value.slice ta tb.length tc).ownBlock = some q) w (w3.setCell ⟨G, 7, none⟩ (.slice a3 n3 c3)) := ((Chg.of_below (S := fun q => q = G ∨ (Value.slice ta tb.length tc).ownBlock = some q) hb2 (Nat.le_refl _)).trans (Chg.of_grown (S := fun q => q = G ∨ (Value.slice ta tb.length tc).ownBlock = some q) hg3 (fun k hk => .inr hk)) (fun _ _ h => h)).setCell G 7 _ (fun _ => .inl rfl)
      have hcC : Chg C w (w3.setCell ⟨G, 7, none⟩ (.slice a3 n3 c3)) := hcT.weaken (fun q hq => by rcases hq with rfl | hq; exact h5; exact (h7 q hq).1)
      have hcG : Chg (fun q => q = G) w3 (w3.setCell ⟨G, 7, none⟩ (.slice a3 n3 c3)) := (Chg.refl (fun q => q = G) w3).setCell G 7 _ (fun _ => rfl)
      have hO3 : Own (w3.setCell ⟨G, 7, none⟩ (.slice a3 n3 c3)) 0 (.slice a3 n3 c3) (tb ++ pieceB 3 bs) := ho3.chg hcG (fun k hk e => by
        subst e
        obtain ⟨c', f', hcf⟩ := own_cells ho3 hk
        rw [show _ = _ from hL3] at hcf
        cases hcf)
      refine ⟨rfl, ⟨⟨CD, len, bg, .slice a3 n3 c3, tb ++ pieceB 3 bs, h1.chg hcT (fun q hq e => by rcases e with rfl | e; exact h6 hq; exact (h7 q e).2 hq), fun q hq => .inl (h2 q hq), ?_, hO3, .inl h5, h6, fun q hq => ?_, h8, HLE.out, fun _ => ⟨HK.out.2.2.1.trans HK.out.2.1.symm, fun _ => ⟨HK.out.2.2.2, HDR.out⟩⟩⟩, fr_lt h.lt hcC.size, h.n, h.gen, ?_, ?_, h.one⟩, hcC⟩
      · exact (Blk.set hL3 7 _).of_eq rfl
      · rcases hm3 with hm3 | ⟨q', hm3, hq'⟩
        · rw [hm3] at hq
          exact ⟨.inl (h7 q hq).1, (h7 q hq).2⟩
        · rw [hm3] at hq
          obtain rfl : q' = q := Option.some.inj hq
          have hq3 : q' < w3.heap.size := (ho3.blocks q' hm3).2
          exact ⟨.inr ⟨Nat.le_trans hb2.size hq', by simpa using hq3⟩, fun e => by have := h1.lt q' e; have := hb2.size; omega⟩
      · show (l.b ++ pieceB 3 bs).length ≤ _
        rw [List.length_append, pieceB_len]
        exact HFT.out
      · show l.sure ≤ (l.b ++ pieceB 3 bs).length
        rw [List.length_append]
        have := h.sure
        omega
end Go.Proofs.YtbegphfideopoaaGreat
namespace Go.Proofs.YtbegphfideopoaaGreat
open Go.RowKit

theorem rowsW_now (first : Nat) (b : List UInt8) : ∀ (n i : Nat) (s : DS), (rowsW first b n i s).2.now.length = s.now.length
  | 0, _, _ => rfl
  | n + 1, i, s => by
    show (if b.length ≤ i * 128 then (0, s) else if (writeS s ((first + i : Nat) : Int) (rowB b i)).1 ≠ 0 then writeS s ((first + i : Nat) : Int) (rowB b i) else rowsW first b n (i + 1) (writeS s ((first + i : Nat) : Int) (rowB b i)).2).2.now.length = _
    split
    · rfl
    · split
      · exact writeS_now _ _ _
      · rw [rowsW_now first b n (i + 1), writeS_now]
theorem syncS_now (s : DS) : (syncS s).2.now.length = s.now.length := by
  have hm : (mayS s).2.now = s.now := by
    unfold mayS
    split
    · rfl
    · split
      · rfl
      · split
        · rfl
        · split <;> rfl
  unfold syncS
  split
  · rw [hm]
  · show (mayS s).2.now.length = _
    rw [hm]
theorem contW_now (first N g M I F : Nat) (b : List UInt8) : ∀ (n k : Nat) (s : DS), (contW first N g M I F b n k s).2.now.length = s.now.length
  | 0, _, _ => rfl
  | n + 1, k, s => by
    have hs : (stepF first N g M I F b k s).2.now.length = s.now.length := by
      unfold stepF
      split
      · exact rowsW_now _ _ _ _ _
      · split
        · exact writeS_now _ _ _
        · exact syncS_now _
    show (if (stepF first N g M I F b k s).1 ≠ 0 then stepF first N g M I F b k s else contW first N g M I F b n (k + 1) (stepF first N g M I F b k s).2).2.now.length = _
    split
    · exact hs
    · rw [contW_now first N g M I F b n (k + 1), hs]
/-- Behind a change the log lies on its disk. -/
theorem settle_pb {w w' : World} {G : Nat} {L : PLay} {C CD : Nat → Prop} {s : DS} {l : LS} {len : Nat} {bg : Bool} {tv : Value} {N g : Nat} {b : List UInt8} {R : Int × DS} (hC : ∀ q, C q → q < w.heap.size) (h2 : ∀ q, CD q → C q) (h5 : C G) (h6 : ¬ CD G) (h7 : ∀ q, tv.ownBlock = some q → C q ∧ ¬ CD q) (hn : R.2.now.length = s.now.length)
    (h : SettleEnd w w' G L CD (sizeS s) l.n l.gen len bg tv N g b R) : Chg C w w' ∧
    ((R.1 ≠ 0 ∧ ∃ CD', OD w' L CD' R.2 ∧ (∀ q, CD' q → Fr C w w' q) ∧ ¬ CD' G ∧ (∀ q, tv.ownBlock = some q → Fr C w w' q ∧ ¬ CD' q) ∧ LogB w' G L.g (sizeS R.2) l.n l.gen len bg true tv) ∨
     (R.1 = 0 ∧ ∃ CD' tv', OD w' L CD' R.2 ∧ (∀ q, CD' q → Fr C w w' q) ∧ ¬ CD' G ∧ (∀ q, tv'.ownBlock = some q → Fr C w w' q ∧ ¬ CD' q) ∧ LogB w' G L.g (sizeS R.2) N g b.length bg false tv' ∧ Own w' 0 tv' (b.drop (b.length / 128 * 128)))) := by
  obtain ⟨CD', k1, k2, k3, k4, k5⟩ := h
  have hz : sizeS R.2 = sizeS s := by unfold sizeS halfS; rw [hn]
  have hGl := hC G h5
  have hsub : ∀ q, CD' q → Fr C w w' q := fun q hq => by
    rcases k2 q hq with e | e
    · exact .inl (h2 q e)
    · exact .inr ⟨e, k1.lt q hq⟩
  refine ⟨k4.weaken (fun q hq => by rcases hq with e | rfl; exact h2 q e; exact h5), ?_⟩
  rcases k5 with ⟨e, hL⟩ | ⟨e, tv', hL, hO, hT⟩
  · exact .inl ⟨e, CD', k1, hsub, k3 G hGl h6, fun q hq => ⟨.inl (h7 q hq).1, k3 q (hC q (h7 q hq).1) (h7 q hq).2⟩, by rw [hz]; exact hL⟩
  · exact .inr ⟨e, CD', tv', k1, hsub, k3 G hGl h6, fun q hq => ⟨.inr (hO.blocks q hq), hT q hq⟩, by rw [hz]; exact hL, hO.mono (Nat.zero_le _)⟩
theorem exec_alloc7 {a : Act} {o : Oper} {w : World} (ho : o.op = .alloc 93) : (execOp a.eval o).run Tryz.prog w = .ok (.value (.pointer (some ⟨w.heap.size, 0, none⟩))) (w.alloc (.cells #[.int .i64 0, .int .i64 0, .int .i64 0] 93)) := by
  unfold execOp
  simp only [ho]
  simp [go_sem]
theorem inB_next {n g : Nat} (h1 : 1 ≤ g) (h2 : g ≤ 1048576) : inB (n + 1) g = decide (n + 1 ≤ 1073741824) := by
  unfold inB
  rw [decide_eq_true (by omega : 1 ≤ n + 1), decide_eq_true h1, decide_eq_true h2]
  simp
set_option maxRecDepth 100000 in
set_option maxHeartbeats 8000000 in
theorem pb_commit {w : World} {G : Nat} {L : PLay} {C : Nat → Prop} {s : DS} {l : LS} (h : PB w G L C s l) :
    Calls Tryz.prog 70 #[.pointer (some ⟨G, 0, none⟩)] w fun e w' => e = .returned (.int .i64 (commitW s l).1) ∧ PB w' G L (Fr C w w') (commitW s l).2.1 (commitW s l).2.2 ∧ Chg C w w' := by
  obtain ⟨CD, len, bg, tv, tb, h1, h2, h3, h4, h5, h6, h7, h8, h9, h10⟩ := id h.body
  have HRD : Hid (Calls Tryz.prog 94 #[.pointer (some ⟨G, 0, none⟩)] w fun e w' => e = .returned (.int .i64 (readyE bg l.broke)) ∧ w' = w) := ready_any h3
  obtain ⟨R, hR⟩ : ∃ R, R = commitW s l := ⟨_, rfl⟩
  rw [← hR]
  unfold commitW at hR
  have hrefl : PB w G L (Fr C w w) s l := h.fr (Below.refl _ _)
  cases hk : l.broke with
  | true =>
    rw [hk, if_pos rfl] at hR
    rw [hk] at HRD
    have HR : Hid (R = (10, s, l)) := hR
    have HRD2 : Hid (Calls Tryz.prog 94 #[.pointer (some ⟨G, 0, none⟩)] w fun e w' => e = .returned (.int .i64 10) ∧ w' = w) := HRD
    clear hR hk HRD h10 h3
    go_enter Tryz.func70, Tryz.ntmps70
    go_wp2_with (go_at_call 94; refine HRD2.out.mono ?_; rintro e w1 ⟨rfl, rfl⟩)
    go_ret
    rw [HR.out]
    exact ⟨rfl, hrefl, Chg.refl _ _⟩
  | false =>
    rw [hk, if_neg (by decide)] at hR
    obtain ⟨e1, e2⟩ := h10 hk
    cases hg : l.begun with
    | false =>
      rw [hg, if_pos rfl] at hR
      rw [hk, e1, hg] at HRD
      have HR : Hid (R = (9, s, l)) := hR
      have HRD2 : Hid (Calls Tryz.prog 94 #[.pointer (some ⟨G, 0, none⟩)] w fun e w' => e = .returned (.int .i64 9) ∧ w' = w) := HRD
      clear hR hk HRD h10 h3 hg e1 e2
      go_enter Tryz.func70, Tryz.ntmps70
      go_wp2_with (go_at_call 94; refine HRD2.out.mono ?_; rintro e w1 ⟨rfl, rfl⟩)
      go_ret
      rw [HR.out]
      exact ⟨rfl, hrefl, Chg.refl _ _⟩
    | true =>
      rw [hg, if_neg (by decide)] at hR
      rw [hk, e1, hg] at HRD
      have HRD2 : Hid (Calls Tryz.prog 94 #[.pointer (some ⟨G, 0, none⟩)] w fun e w' => e = .returned (.int .i64 0) ∧ w' = w) := HRD
      obtain ⟨e3, e4⟩ := e2 hg
      have hsz := size_lt h1.d.ok h1.d.lay.max
      have hsu := h.sure
      have hbl := h.b
      have hn := h.n
      have hgn := h.gen
      have hg1 := h.one hg
      obtain ⟨ta, tc, rfl⟩ := Seg.shapeD h4.seg
      have htl : tb.length = l.b.length - l.sure / 128 * 128 := by rw [e4, List.length_drop]
      have hfl : len / 128 * 128 + tb.length = l.b.length := by rw [htl, e3]; omega
      have hGl : G < w.heap.size := Blk.lt h3
      have HFI : Hid (∀ W : World, Below w.heap.size w W → Calls Tryz.prog 95 #[.pointer (some ⟨G, 0, none⟩)] W fun e w' => e = .returned (.int .i64 (l.b.length : Int)) ∧ ∃ k, w' = W.drewN k) := fun W hW => by
        have := filled_any (Blk.below h3 hW hGl) (by omega) (by omega)
        rw [hfl] at this
        exact this
      have HFU : Hid (∀ W : World, Below w.heap.size w W → Calls Tryz.prog 97 #[.pointer (some ⟨G, 0, none⟩)] W fun e w' => e = .returned (.int .i64 ((l.sure / 128 : Nat) : Int)) ∧ w' = W) := fun W hW => by
        have := full_any (Blk.below h3 hW hGl) (by omega)
        rw [e3] at this
        exact this
      have HLB : Hid (∀ W : World, Below w.heap.size w W → LogB W G L.g (sizeS s) l.n l.gen len bg l.broke (.slice ta tb.length tc)) := fun W hW => Blk.below h3 hW hGl
      have HCL : Hid (∀ W : World, Below w.heap.size w W → W.rangeAt G 2 [.int .i64 (l.n : Int), .int .i64 (l.gen : Int), .int .i64 (len : Int)] ∧ W.cell? ⟨G, 3, none⟩ = some (.int .i64 (l.gen : Int)) ∧ W.cell? ⟨G, 4, none⟩ = some (.int .i64 (len : Int)) ∧ W.cell? ⟨G, 7, none⟩ = some (.slice ta tb.length tc)) := fun W hW => by
        have hb := HLB.out W hW
        exact ⟨Blk.range hb 2 _ (fun j v hv => by
          match j, hv with
          | 0, hv => exact hv
          | 1, hv => exact hv
          | 2, hv => exact hv
          | (k + 3), hv => simp at hv), hb.cell (j := 3) rfl, hb.cell (j := 4) rfl, hb.cell (j := 7) rfl⟩
      have hgs : G ≠ w.heap.size := by omega
      have HSE : Hid (∀ W : World, Below w.heap.size w W → ∀ gb, Blk W gb 93 #[.int .i64 ((l.n + 1 : Nat) : Int), .int .i64 (l.gen : Int), .int .i64 (l.b.length : Int)] → w.heap.size ≤ gb → Calls Tryz.prog 55 #[.pointer (some ⟨G, 0, none⟩), headV (l.n + 1) l.gen l.b.length, .int .i64 ((l.sure / 128 : Nat) : Int), .slice ta tb.length tc] W fun e w' => e = .returned (.int .i64 (writeW s l.n l.gen l.sure l.b).1) ∧ SettleEnd W w' G L CD (sizeS s) l.n l.gen len bg (.slice ta tb.length tc) (l.n + 1) l.gen l.b (writeW s l.n l.gen l.sure l.b)) := fun W hW gb _ _ => by
        rw [writeW_steps s l.n l.gen l.sure (l.b.length + 1) l.b (by omega)]
        have hh : sizeS s / 128 = halfS s := by unfold sizeS; omega
        rw [← hh]
        have hL' : LogB W G L.g (sizeS s) l.n l.gen len bg false (.slice ta tb.length tc) := by have := HLB.out W hW; rw [hk] at this; exact this
        refine settle_any (l.n + 1) l.gen (l.sure / 128) _ hL' (h1.after hW) h6 l.b (by omega) ⟨by rw [← e4]; exact (h4.below hW (Nat.le_refl _)).seg, fun _ q hq => (h7 q hq).2⟩ (fun _ q hq e => ?_) (by omega) (by omega) (by omega) (l.b.length + 1) (by omega) (by omega) (by omega)
        obtain ⟨c', f', hcf⟩ := own_cells h4 hq
        rw [e, show _ = _ from h3] at hcf
        cases hcf
      have HIB : Hid (inB (l.n + 1) l.gen = decide (l.n + 1 ≤ 1073741824)) := inB_next hg1 hgn
      have HNW : Hid ((writeW s l.n l.gen l.sure l.b).2.now.length = s.now.length) := by
        show _ = _
        rw [writeW_steps s l.n l.gen l.sure (l.b.length + 1) l.b (by omega)]
        exact contW_now _ _ _ _ _ _ _ _ _ _
      have HBG : Hid (bg = true ∧ l.broke = false ∧ len = l.sure) := ⟨e1.trans hg, hk, e3⟩
      have hneq : (l.sure = l.b.length) ↔ ((l.b.length : Int) == (len : Int)) = true := by rw [e3, beq_iff_eq]; omega
      clear HRD h10 e1 e2 e4 htl hfl
      go_enter Tryz.func70, Tryz.ntmps70
      go_wp2_with fail
      refine HRD2.out.mono ?_
      rintro e w1 ⟨rfl, hw1⟩
      obtain rfl := hw1.symm
      clear hw1 HRD2
      go_wp2_with fail
      have hS0 := HCL.out w.drew ((Below.refl _ _).drew)
      refine Code.wp_mono (Q := fun e a' W' => e = .normal ∧ ∃ gb, a' = { tmps := #[.pointer (some ⟨G, 0, none⟩), undef, .int .i64 0, .int .i64 0, .pointer (some ⟨gb, 0, none⟩), .pointer (some ⟨G, 0, none⟩), .int .i64 0, .int .i64 0, .bool false, undef, .pointer (some ⟨G, 0, none⟩), .pointer (some ⟨G, 0, none⟩), .pointer (some ⟨G, 2, none⟩), headV l.n l.gen len, .pointer (some ⟨G, 0, none⟩), .pointer (some ⟨G, 0, none⟩), .pointer (some ⟨G, 2, none⟩), .pointer (some ⟨G, 3, none⟩), .int .i64 (l.gen : Int), .pointer (some ⟨G, 0, none⟩), .int .i64 (l.b.length : Int), headV (l.n + 1) l.gen l.b.length, undef, undef, undef, undef, undef, undef, undef, undef, undef, undef, undef, undef, undef, undef, undef, undef, undef, undef, undef, undef], defers := [] } ∧ w.heap.size ≤ gb ∧ Blk W' gb 93 #[.int .i64 ((l.n + 1 : Nat) : Int), .int .i64 (l.gen : Int), .int .i64 (l.b.length : Int)] ∧ Below w.heap.size w W') ?_ ?_
      rotate_left
      · refine held_begin (fun V => V.rangeAt G 2 [.int .i64 (l.n : Int), .int .i64 (l.gen : Int), .int .i64 (len : Int)] ∧ V.cell? ⟨G, 3, none⟩ = some (.int .i64 (l.gen : Int)) ∧ V.cell? ⟨G, 4, none⟩ = some (.int .i64 (len : Int)) ∧ V.cell? ⟨G, 7, none⟩ = some (.slice ta tb.length tc)) (by kernel_rfl) ?_
        refine held_take 0 10 _ (.pointer (some ⟨G, 0, none⟩)) rfl rfl (by kernel_rfl) (by kernel_rfl) (by kernel_rfl) rfl hS0 (fun _ _ => rfl) ?_
        simp only [Act.put, List.setIfInBounds_toArray, List.set_cons_succ, List.set_cons_zero]
        refine held_take 1 11 _ (.pointer (some ⟨G, 0, none⟩)) rfl rfl (by kernel_rfl) (by kernel_rfl) (by kernel_rfl) rfl hS0 (fun _ _ => rfl) ?_
        simp only [Act.put, List.setIfInBounds_toArray, List.set_cons_succ, List.set_cons_zero]
        refine held_take 2 12 _ (.pointer (some ⟨G, 2, none⟩)) rfl rfl (by kernel_rfl) (by kernel_rfl) (by kernel_rfl) rfl hS0 (fun _ _ => rfl) ?_
        simp only [Act.put, List.setIfInBounds_toArray, List.set_cons_succ, List.set_cons_zero]
        refine held_take 3 13 _ (headV l.n l.gen len) rfl rfl (by kernel_rfl) (by kernel_rfl) (by kernel_rfl) rfl hS0 (fun V hV => exec_load 93 _ rfl G 2 rfl [.int .i64 (l.n : Int), .int .i64 (l.gen : Int), .int .i64 (len : Int)] _ hV.1 Tryz.underlying93 rfl Tryz.info93s) ?_
        simp only [Act.put, List.setIfInBounds_toArray, List.set_cons_succ, List.set_cons_zero]
        refine held_take 4 14 _ (.pointer (some ⟨G, 0, none⟩)) rfl rfl (by kernel_rfl) (by kernel_rfl) (by kernel_rfl) rfl hS0 (fun _ _ => rfl) ?_
        simp only [Act.put, List.setIfInBounds_toArray, List.set_cons_succ, List.set_cons_zero]
        refine held_take 5 15 _ (.pointer (some ⟨G, 0, none⟩)) rfl rfl (by kernel_rfl) (by kernel_rfl) (by kernel_rfl) rfl hS0 (fun _ _ => rfl) ?_
        simp only [Act.put, List.setIfInBounds_toArray, List.set_cons_succ, List.set_cons_zero]
        refine held_take 6 16 _ (.pointer (some ⟨G, 2, none⟩)) rfl rfl (by kernel_rfl) (by kernel_rfl) (by kernel_rfl) rfl hS0 (fun _ _ => rfl) ?_
        simp only [Act.put, List.setIfInBounds_toArray, List.set_cons_succ, List.set_cons_zero]
        refine held_take 7 17 _ (.pointer (some ⟨G, 3, none⟩)) rfl rfl (by kernel_rfl) (by kernel_rfl) (by kernel_rfl) rfl hS0 (fun _ _ => rfl) ?_
        simp only [Act.put, List.setIfInBounds_toArray, List.set_cons_succ, List.set_cons_zero]
        refine held_take 8 18 _ (.int .i64 (l.gen : Int)) rfl rfl (by kernel_rfl) (by kernel_rfl) (by kernel_rfl) rfl hS0 (fun V hV => exec_loadc 3 _ rfl _ _ rfl (load_one 3 (fun _ => by kernel_rfl) V _ _ _ hV.2.1)) ?_
        simp only [Act.put, List.setIfInBounds_toArray, List.set_cons_succ, List.set_cons_zero]
        refine held_take 9 19 _ (.pointer (some ⟨G, 0, none⟩)) rfl rfl (by kernel_rfl) (by kernel_rfl) (by kernel_rfl) rfl hS0 (fun _ _ => rfl) ?_
        simp only [Act.put, List.setIfInBounds_toArray, List.set_cons_succ, List.set_cons_zero]
        refine held_all2 10 12 (by kernel_rfl) ?_ ?_
        · refine op_call 10 20 _ 95 #[.pointer (some ⟨G, 0, none⟩)] rfl rfl rfl (exec_one 95 _ _ rfl _ rfl Tryz.call95) ((HFI.out _ ((Below.refl w.heap.size w).drew)).mono ?_)
          rintro e W1 ⟨rfl, k1, rfl⟩
          have hx0 := Below.drewN (Below.refl (w.drew).heap.size w.drew) k1
          refine ⟨_, rfl, HCL.out _ (Below.drewN ((Below.refl w.heap.size w).drew) k1), ?_⟩
          simp only [Act.put, List.setIfInBounds_toArray, List.set_cons_succ, List.set_cons_zero]
          refine held_all2 11 12 (by kernel_rfl) ?_ ?_
          · refine op_call 11 21 _ 52 #[headV l.n l.gen len, .int .i64 (l.gen : Int), .int .i64 (l.b.length : Int)] rfl rfl rfl (exec_three8 52 _ _ _ _ rfl _ _ _ rfl rfl rfl Tryz.call52) ((follow_any l.n l.gen len l.gen l.b.length _ (by omega)).mono ?_)
            rintro e W2 ⟨rfl, hx1⟩
            refine ⟨_, rfl, HCL.out _ ((Below.drewN ((Below.refl w.heap.size w).drew) k1).trans (hx1.mono (Below.drewN ((Below.refl w.heap.size w).drew) k1).size)), ?_⟩
            simp only [Act.put, List.setIfInBounds_toArray, List.set_cons_succ, List.set_cons_zero]
            have hkA : Blk (W2.alloc (.cells #[.int .i64 0, .int .i64 0, .int .i64 0] 93)) W2.heap.size 93 #[.int .i64 0, .int .i64 0, .int .i64 0] := Blk.new _ _ _
            have hlA : w.heap.size ≤ W2.heap.size := ((Below.drewN ((Below.refl w.heap.size w).drew) k1).trans (hx1.mono (Below.drewN ((Below.refl w.heap.size w).drew) k1).size)).size
            refine held_all1 12 (by kernel_rfl) (op_value 12 4 _ (.pointer (some ⟨W2.heap.size, 0, none⟩)) _ rfl rfl rfl (exec_alloc7 rfl) ⟨HCL.out _ (((Below.drewN ((Below.refl w.heap.size w).drew) k1).trans (hx1.mono (Below.drewN ((Below.refl w.heap.size w).drew) k1).size)).alloc ((Below.drewN ((Below.refl w.heap.size w).drew) k1).trans (hx1.mono (Below.drewN ((Below.refl w.heap.size w).drew) k1).size)).size _), ?_⟩)
            simp only [Act.put, List.setIfInBounds_toArray, List.set_cons_succ, List.set_cons_zero]
            refine held_all1 13 (by kernel_rfl) (op_row 13 _ rfl rfl rfl 93 _ _ rfl _ #[.int .i64 ((l.n + 1 : Nat) : Int), .int .i64 (l.gen : Int), .int .i64 (l.b.length : Int)] rfl rfl 93 _ (hkA) Tryz.info93s rfl (by simp [Value.oneCell']) ?_)
            intro W9 hb9 hg9 hs9
            have hB9 : Below w.heap.size w W9 := below_grown (((Below.drewN ((Below.refl w.heap.size w).drew) k1).trans (hx1.mono (Below.drewN ((Below.refl w.heap.size w).drew) k1).size)).alloc ((Below.drewN ((Below.refl w.heap.size w).drew) k1).trans (hx1.mono (Below.drewN ((Below.refl w.heap.size w).drew) k1).size)).size _) hg9 (((Below.drewN ((Below.refl w.heap.size w).drew) k1).trans (hx1.mono (Below.drewN ((Below.refl w.heap.size w).drew) k1).size)).alloc ((Below.drewN ((Below.refl w.heap.size w).drew) k1).trans (hx1.mono (Below.drewN ((Below.refl w.heap.size w).drew) k1).size)).size _).size (fun q hq => by cases hq; exact hlA)
            refine ⟨HCL.out W9 hB9, ?_⟩
            refine wpAnyH_done (by kernel_rfl) ?_ _
            refine NoPanic.normal ?_
            exact ⟨rfl, _, rfl, hlA, hb9, hB9⟩
          · have hkA : Blk ((w.drew.drewN k1).alloc (.cells #[.int .i64 0, .int .i64 0, .int .i64 0] 93)) (w.drew.drewN k1).heap.size 93 #[.int .i64 0, .int .i64 0, .int .i64 0] := Blk.new _ _ _
            have hlA : w.heap.size ≤ (w.drew.drewN k1).heap.size := (Below.drewN ((Below.refl w.heap.size w).drew) k1).size
            refine op_value 12 4 _ (.pointer (some ⟨(w.drew.drewN k1).heap.size, 0, none⟩)) _ rfl rfl rfl (exec_alloc7 rfl) ⟨HCL.out _ ((Below.drewN ((Below.refl w.heap.size w).drew) k1).alloc (Below.drewN ((Below.refl w.heap.size w).drew) k1).size _), ?_⟩
            simp only [Act.put, List.setIfInBounds_toArray, List.set_cons_succ, List.set_cons_zero]
            refine held_all1 11 (by kernel_rfl) (op_call 11 21 _ 52 #[headV l.n l.gen len, .int .i64 (l.gen : Int), .int .i64 (l.b.length : Int)] rfl rfl rfl (exec_three8 52 _ _ _ _ rfl _ _ _ rfl rfl rfl Tryz.call52) ((follow_any l.n l.gen len l.gen l.b.length _ (by omega)).mono ?_))
            rintro e W2 ⟨rfl, hx1⟩
            refine ⟨_, rfl, HCL.out _ (((Below.drewN ((Below.refl w.heap.size w).drew) k1).alloc (Below.drewN ((Below.refl w.heap.size w).drew) k1).size _).trans (hx1.mono ((Below.drewN ((Below.refl w.heap.size w).drew) k1).alloc (Below.drewN ((Below.refl w.heap.size w).drew) k1).size _).size)), ?_⟩
            simp only [Act.put, List.setIfInBounds_toArray, List.set_cons_succ, List.set_cons_zero]
            refine held_all1 13 (by kernel_rfl) (op_row 13 _ rfl rfl rfl 93 _ _ rfl _ #[.int .i64 ((l.n + 1 : Nat) : Int), .int .i64 (l.gen : Int), .int .i64 (l.b.length : Int)] rfl rfl 93 _ (hkA.below hx1 hkA.lt) Tryz.info93s rfl (by simp [Value.oneCell']) ?_)
            intro W9 hb9 hg9 hs9
            have hB9 : Below w.heap.size w W9 := below_grown (((Below.drewN ((Below.refl w.heap.size w).drew) k1).alloc (Below.drewN ((Below.refl w.heap.size w).drew) k1).size _).trans (hx1.mono ((Below.drewN ((Below.refl w.heap.size w).drew) k1).alloc (Below.drewN ((Below.refl w.heap.size w).drew) k1).size _).size)) hg9 (((Below.drewN ((Below.refl w.heap.size w).drew) k1).alloc (Below.drewN ((Below.refl w.heap.size w).drew) k1).size _).trans (hx1.mono ((Below.drewN ((Below.refl w.heap.size w).drew) k1).alloc (Below.drewN ((Below.refl w.heap.size w).drew) k1).size _).size)).size (fun q hq => by cases hq; exact hlA)
            refine ⟨HCL.out W9 hB9, ?_⟩
            refine wpAnyH_done (by kernel_rfl) ?_ _
            refine NoPanic.normal ?_
            exact ⟨rfl, _, rfl, hlA, hb9, hB9⟩
        · have hkA : Blk (w.drew.alloc (.cells #[.int .i64 0, .int .i64 0, .int .i64 0] 93)) w.drew.heap.size 93 #[.int .i64 0, .int .i64 0, .int .i64 0] := Blk.new _ _ _
          have hlA : w.heap.size ≤ w.drew.heap.size := ((Below.refl w.heap.size w).drew).size
          refine op_value 12 4 _ (.pointer (some ⟨w.drew.heap.size, 0, none⟩)) _ rfl rfl rfl (exec_alloc7 rfl) ⟨HCL.out _ (((Below.refl w.heap.size w).drew).alloc ((Below.refl w.heap.size w).drew).size _), ?_⟩
          simp only [Act.put, List.setIfInBounds_toArray, List.set_cons_succ, List.set_cons_zero]
          refine held_all1 10 (by kernel_rfl) (op_call 10 20 _ 95 #[.pointer (some ⟨G, 0, none⟩)] rfl rfl rfl (exec_one 95 _ _ rfl _ rfl Tryz.call95) ((HFI.out _ (((Below.refl w.heap.size w).drew).alloc ((Below.refl w.heap.size w).drew).size _)).mono ?_))
          rintro e W1 ⟨rfl, k1, rfl⟩
          have hx0 := Below.drewN (Below.refl ((w.drew.alloc (.cells #[.int .i64 0, .int .i64 0, .int .i64 0] 93))).heap.size (w.drew.alloc (.cells #[.int .i64 0, .int .i64 0, .int .i64 0] 93))) k1
          refine ⟨_, rfl, HCL.out _ (Below.drewN (((Below.refl w.heap.size w).drew).alloc ((Below.refl w.heap.size w).drew).size _) k1), ?_⟩
          simp only [Act.put, List.setIfInBounds_toArray, List.set_cons_succ, List.set_cons_zero]
          refine held_all1 11 (by kernel_rfl) (op_call 11 21 _ 52 #[headV l.n l.gen len, .int .i64 (l.gen : Int), .int .i64 (l.b.length : Int)] rfl rfl rfl (exec_three8 52 _ _ _ _ rfl _ _ _ rfl rfl rfl Tryz.call52) ((follow_any l.n l.gen len l.gen l.b.length _ (by omega)).mono ?_))
          rintro e W2 ⟨rfl, hx1⟩
          refine ⟨_, rfl, HCL.out _ ((Below.drewN (((Below.refl w.heap.size w).drew).alloc ((Below.refl w.heap.size w).drew).size _) k1).trans (hx1.mono (Below.drewN (((Below.refl w.heap.size w).drew).alloc ((Below.refl w.heap.size w).drew).size _) k1).size)), ?_⟩
          simp only [Act.put, List.setIfInBounds_toArray, List.set_cons_succ, List.set_cons_zero]
          refine held_all1 13 (by kernel_rfl) (op_row 13 _ rfl rfl rfl 93 _ _ rfl _ #[.int .i64 ((l.n + 1 : Nat) : Int), .int .i64 (l.gen : Int), .int .i64 (l.b.length : Int)] rfl rfl 93 _ ((hkA.below hx0 hkA.lt).below hx1 (hkA.below hx0 hkA.lt).lt) Tryz.info93s rfl (by simp [Value.oneCell']) ?_)
          intro W9 hb9 hg9 hs9
          have hB9 : Below w.heap.size w W9 := below_grown ((Below.drewN (((Below.refl w.heap.size w).drew).alloc ((Below.refl w.heap.size w).drew).size _) k1).trans (hx1.mono (Below.drewN (((Below.refl w.heap.size w).drew).alloc ((Below.refl w.heap.size w).drew).size _) k1).size)) hg9 ((Below.drewN (((Below.refl w.heap.size w).drew).alloc ((Below.refl w.heap.size w).drew).size _) k1).trans (hx1.mono (Below.drewN (((Below.refl w.heap.size w).drew).alloc ((Below.refl w.heap.size w).drew).size _) k1).size)).size (fun q hq => by cases hq; exact hlA)
          refine ⟨HCL.out W9 hB9, ?_⟩
          refine wpAnyH_done (by kernel_rfl) ?_ _
          refine NoPanic.normal ?_
          exact ⟨rfl, _, rfl, hlA, hb9, hB9⟩
      rintro e a' W4 ⟨rfl, gb, rfl, hgb, hkb, hB4⟩
      have hK2 : W4.cell? ⟨gb, 2, none⟩ = some (.int .i64 (l.b.length : Int)) := hkb.cell (j := 2) rfl
      have hK4 := (HCL.out W4 hB4).2.2.1
      have hS5 : W4.drew.cell? ⟨gb, 2, none⟩ = some (.int .i64 (l.b.length : Int)) ∧ W4.drew.cell? ⟨G, 4, none⟩ = some (.int .i64 (len : Int)) := ⟨hK2, hK4⟩
      have hB5 : Below w.heap.size w W4.drew := hB4.drew
      have hkr : W4.drew.rangeAt gb 0 [.int .i64 ((l.n + 1 : Nat) : Int), .int .i64 (l.gen : Int), .int .i64 (l.b.length : Int)] := Blk.range (w := W4.drew) hkb 0 _ (fun j v hv => by
          match j, hv with
          | 0, hv => exact hv
          | 1, hv => exact hv
          | 2, hv => exact hv
          | (k + 3), hv => simp at hv)
      go_wp2_with fail
      by_cases heq : l.sure = l.b.length
      · have H5 : ((l.b.length : Int) == (len : Int)) = true := hneq.1 heq
        rw [if_pos heq] at hR
        have HR : Hid (R = (0, s, l)) := hR
        clear hR hneq
        refine held_begin (fun V => V.cell? ⟨gb, 2, none⟩ = some (.int .i64 (l.b.length : Int)) ∧ V.cell? ⟨G, 4, none⟩ = some (.int .i64 (len : Int))) (by kernel_rfl) ?_
        refine held_take 0 22 _ (.pointer (some ⟨gb, 2, none⟩)) rfl rfl (by kernel_rfl) (by kernel_rfl) (by kernel_rfl) rfl hS5 (fun _ _ => rfl) ?_
        simp only [Act.put, List.setIfInBounds_toArray, List.set_cons_succ, List.set_cons_zero]
        refine held_take 1 23 _ (.int .i64 (l.b.length : Int)) rfl rfl (by kernel_rfl) (by kernel_rfl) (by kernel_rfl) rfl hS5 (fun V hV => exec_loadc 3 _ rfl _ _ rfl (load_one 3 (fun _ => by kernel_rfl) V _ _ _ hV.1)) ?_
        simp only [Act.put, List.setIfInBounds_toArray, List.set_cons_succ, List.set_cons_zero]
        refine held_take 2 24 _ (.pointer (some ⟨G, 0, none⟩)) rfl rfl (by kernel_rfl) (by kernel_rfl) (by kernel_rfl) rfl hS5 (fun _ _ => rfl) ?_
        simp only [Act.put, List.setIfInBounds_toArray, List.set_cons_succ, List.set_cons_zero]
        refine held_take 3 25 _ (.pointer (some ⟨G, 0, none⟩)) rfl rfl (by kernel_rfl) (by kernel_rfl) (by kernel_rfl) rfl hS5 (fun _ _ => rfl) ?_
        simp only [Act.put, List.setIfInBounds_toArray, List.set_cons_succ, List.set_cons_zero]
        refine held_take 4 26 _ (.pointer (some ⟨G, 2, none⟩)) rfl rfl (by kernel_rfl) (by kernel_rfl) (by kernel_rfl) rfl hS5 (fun _ _ => rfl) ?_
        simp only [Act.put, List.setIfInBounds_toArray, List.set_cons_succ, List.set_cons_zero]
        refine held_take 5 27 _ (.pointer (some ⟨G, 4, none⟩)) rfl rfl (by kernel_rfl) (by kernel_rfl) (by kernel_rfl) rfl hS5 (fun _ _ => rfl) ?_
        simp only [Act.put, List.setIfInBounds_toArray, List.set_cons_succ, List.set_cons_zero]
        refine held_take 6 28 _ (.int .i64 (len : Int)) rfl rfl (by kernel_rfl) (by kernel_rfl) (by kernel_rfl) rfl hS5 (fun V hV => exec_loadc 3 _ rfl _ _ rfl (load_one 3 (fun _ => by kernel_rfl) V _ _ _ hV.2)) ?_
        simp only [Act.put, List.setIfInBounds_toArray, List.set_cons_succ, List.set_cons_zero]
        refine held_take 7 29 _ (.bool true) rfl rfl (by kernel_rfl) (by kernel_rfl) (by kernel_rfl) rfl hS5 (fun V _ => exec_eql7 _ _ _ rfl _ _ _ rfl rfl (fun _ => rfl) H5) ?_
        simp only [Act.put, List.setIfInBounds_toArray, List.set_cons_succ, List.set_cons_zero]
        refine wpAnyH_done (by kernel_rfl) ?_ _
        refine NoPanic.normal ?_
        go_wp2_with fail
        go_ret
        rw [HR.out]
        exact ⟨rfl, h.fr hB5, Chg.of_below hB5 (Nat.le_refl _)⟩
      have H5 : ((l.b.length : Int) == (len : Int)) = false := by
        rw [Bool.eq_false_iff]
        exact fun e => heq (hneq.2 e)
      rw [if_neg heq] at hR
      refine held_begin (fun V => V.cell? ⟨gb, 2, none⟩ = some (.int .i64 (l.b.length : Int)) ∧ V.cell? ⟨G, 4, none⟩ = some (.int .i64 (len : Int))) (by kernel_rfl) ?_
      refine held_take 0 22 _ (.pointer (some ⟨gb, 2, none⟩)) rfl rfl (by kernel_rfl) (by kernel_rfl) (by kernel_rfl) rfl hS5 (fun _ _ => rfl) ?_
      simp only [Act.put, List.setIfInBounds_toArray, List.set_cons_succ, List.set_cons_zero]
      refine held_take 1 23 _ (.int .i64 (l.b.length : Int)) rfl rfl (by kernel_rfl) (by kernel_rfl) (by kernel_rfl) rfl hS5 (fun V hV => exec_loadc 3 _ rfl _ _ rfl (load_one 3 (fun _ => by kernel_rfl) V _ _ _ hV.1)) ?_
      simp only [Act.put, List.setIfInBounds_toArray, List.set_cons_succ, List.set_cons_zero]
      refine held_take 2 24 _ (.pointer (some ⟨G, 0, none⟩)) rfl rfl (by kernel_rfl) (by kernel_rfl) (by kernel_rfl) rfl hS5 (fun _ _ => rfl) ?_
      simp only [Act.put, List.setIfInBounds_toArray, List.set_cons_succ, List.set_cons_zero]
      refine held_take 3 25 _ (.pointer (some ⟨G, 0, none⟩)) rfl rfl (by kernel_rfl) (by kernel_rfl) (by kernel_rfl) rfl hS5 (fun _ _ => rfl) ?_
      simp only [Act.put, List.setIfInBounds_toArray, List.set_cons_succ, List.set_cons_zero]
      refine held_take 4 26 _ (.pointer (some ⟨G, 2, none⟩)) rfl rfl (by kernel_rfl) (by kernel_rfl) (by kernel_rfl) rfl hS5 (fun _ _ => rfl) ?_
      simp only [Act.put, List.setIfInBounds_toArray, List.set_cons_succ, List.set_cons_zero]
      refine held_take 5 27 _ (.pointer (some ⟨G, 4, none⟩)) rfl rfl (by kernel_rfl) (by kernel_rfl) (by kernel_rfl) rfl hS5 (fun _ _ => rfl) ?_
      simp only [Act.put, List.setIfInBounds_toArray, List.set_cons_succ, List.set_cons_zero]
      refine held_take 6 28 _ (.int .i64 (len : Int)) rfl rfl (by kernel_rfl) (by kernel_rfl) (by kernel_rfl) rfl hS5 (fun V hV => exec_loadc 3 _ rfl _ _ rfl (load_one 3 (fun _ => by kernel_rfl) V _ _ _ hV.2)) ?_
      simp only [Act.put, List.setIfInBounds_toArray, List.set_cons_succ, List.set_cons_zero]
      refine held_take 7 29 _ (.bool false) rfl rfl (by kernel_rfl) (by kernel_rfl) (by kernel_rfl) rfl hS5 (fun V _ => exec_eql7 _ _ _ rfl _ _ _ rfl rfl (fun _ => rfl) H5) ?_
      simp only [Act.put, List.setIfInBounds_toArray, List.set_cons_succ, List.set_cons_zero]
      refine wpAnyH_done (by kernel_rfl) ?_ _
      refine NoPanic.normal ?_
      have HIN : Hid (Calls Tryz.prog 54 #[headV (l.n + 1) l.gen l.b.length] W4.drew fun e w' => e = .returned (.bool (inB (l.n + 1) l.gen)) ∧ Below W4.drew.heap.size W4.drew w') := inB_any _ _ _ _
      rw [HIB.out] at HIN
      have hk0 : W4.drew.cell? ⟨gb, 0, none⟩ = some (.int .i64 ((l.n + 1 : Nat) : Int)) := Blk.cell (w := W4.drew) (j := 0) hkb rfl
      have hk1 : W4.drew.cell? ⟨gb, 1, none⟩ = some (.int .i64 (l.gen : Int)) := Blk.cell (w := W4.drew) (j := 1) hkb rfl
      have hk2 : W4.drew.cell? ⟨gb, 2, none⟩ = some (.int .i64 (l.b.length : Int)) := hS5.1
      by_cases hmx : 1073741824 ≤ l.n
      · rw [if_pos hmx] at hR
        have HR : Hid (R = (3, s, l)) := hR
        rw [decide_eq_false (by omega)] at HIN
        unfold headV at HIN
        clear hR hneq
        go_wp2_with fail
        refine HIN.out.mono ?_
        rintro e W7 ⟨rfl, hB7⟩
        have hB8 : Below w.heap.size w W7 := hB5.trans (hB7.mono hB5.size)
        go_wp2_with fail
        go_ret
        rw [HR.out]
        exact ⟨rfl, h.fr hB8, Chg.of_below hB8 (Nat.le_refl _)⟩
      rw [if_neg hmx] at hR
      rw [decide_eq_true (by omega)] at HIN
      unfold headV at HIN
      clear hneq
      go_wp2_with fail
      refine HIN.out.mono ?_
      rintro e W7 ⟨rfl, hB7⟩
      have hB8 : Below w.heap.size w W7 := hB5.trans (hB7.mono hB5.size)
      have hbD : Below w.heap.size w W7.drew := hB8.drew
      have hkD : Blk W7.drew gb 93 #[.int .i64 ((l.n + 1 : Nat) : Int), .int .i64 (l.gen : Int), .int .i64 (l.b.length : Int)] := Blk.drew (Blk.below (w := W4.drew) hkb hB7 (Blk.lt hkb))
      have hT : ∀ W : World, Blk W gb 93 #[.int .i64 ((l.n + 1 : Nat) : Int), .int .i64 (l.gen : Int), .int .i64 (l.b.length : Int)] → W.rangeAt gb 0 [.int .i64 ((l.n + 1 : Nat) : Int), .int .i64 (l.gen : Int), .int .i64 (l.b.length : Int)] := fun W hW => Blk.range hW 0 _ (fun j v hv => by
          match j, hv with
          | 0, hv => exact hv
          | 1, hv => exact hv
          | 2, hv => exact hv
          | (k + 3), hv => simp at hv)
      have hT0 := hT _ hkD
      obtain ⟨Y, hY⟩ : ∃ Y, Y = writeW s l.n l.gen l.sure l.b := ⟨_, rfl⟩
      have HST : Hid (Calls Tryz.prog 55 #[.pointer (some ⟨G, 0, none⟩), headV (l.n + 1) l.gen l.b.length, .int .i64 ((l.sure / 128 : Nat) : Int), .slice ta tb.length tc] W7.drew fun e w' => e = .returned (.int .i64 Y.1) ∧ SettleEnd W7.drew w' G L CD (sizeS s) l.n l.gen len bg (.slice ta tb.length tc) (l.n + 1) l.gen l.b Y) := by
        rw [hY]
        exact HSE.out W7.drew hbD gb hkD hgb
      rw [← hY] at HNW hR
      have hCDl : ∀ q, CD q → q < w.heap.size := fun q hq => h.lt q (h2 q hq)
      have HT8 : Hid (∀ W8, SettleEnd W7.drew W8 G L CD (sizeS s) l.n l.gen len bg (.slice ta tb.length tc) (l.n + 1) l.gen l.b Y → W8.rangeAt gb 0 [.int .i64 ((l.n + 1 : Nat) : Int), .int .i64 (l.gen : Int), .int .i64 (l.b.length : Int)]) := fun W8 hse => by
        obtain ⟨CD', k1, k2, k3, k4, k5⟩ := hse
        refine hT _ (Blk.chg hkD k4 ?_)
        rintro (e | e)
        · have := hCDl _ e
          omega
        · omega
      have HFIN : Hid (∀ W8, SettleEnd W7.drew W8 G L CD (sizeS s) l.n l.gen len bg (.slice ta tb.length tc) (l.n + 1) l.gen l.b Y → R.1 = Y.1 ∧ PB W8 G L (Fr C w W8) R.2.1 R.2.2 ∧ Chg C w W8) := fun W8 hse => by
        obtain ⟨hc, hh⟩ := settle_pb (C := C) (fun q hq => Nat.lt_of_lt_of_le (h.lt q hq) hbD.size) h2 h5 h6 h7 HNW.out hse
        obtain ⟨_, _, _, _, k4, _⟩ := hse
        have hcw : Chg C w W8 := (Chg.of_below hbD (Nat.le_refl _)).trans hc (fun _ _ => id)
        have hFr : ∀ q, Fr C W7.drew W8 q → Fr C w W8 q := fun q hq => hq.imp_right fun e => ⟨Nat.le_trans hbD.size e.1, e.2⟩
        have hlt8 : ∀ q, Fr C w W8 q → q < W8.heap.size := fr_lt h.lt hcw.size
        have h4' : Own W8 0 (.slice ta tb.length tc) tb := (h4.below hbD (Nat.le_refl _)).chg k4 (fun q hq e => by
          rcases e with e | e
          · exact (h7 q hq).2 e
          · obtain ⟨c', f', hcf⟩ := own_cells h4 hq
            rw [e, show _ = _ from h3] at hcf
            cases hcf)
        rcases hh with ⟨e0, CD', k1, k2, k3, k5, k6⟩ | ⟨e0, CD', tv', k1, k2, k3, k5, k6, k7⟩
        · rw [if_pos e0] at hR
          rw [hR]
          exact ⟨rfl, ⟨⟨CD', len, bg, _, tb, k1, fun q hq => hFr q (k2 q hq), k6, h4', .inl h5, k3, fun q hq => ⟨hFr q (k5 q hq).1, (k5 q hq).2⟩, h8, h9, fun e => by cases e⟩, hlt8, h.n, h.gen, h.b, h.sure, fun _ => hg1⟩, hcw⟩
        · rw [if_neg (by rw [e0]; simp)] at hR
          rw [hR]
          exact ⟨e0.symm, ⟨⟨CD', l.b.length, bg, tv', _, k1, fun q hq => hFr q (k2 q hq), k6, k7, .inl h5, k3, fun q hq => ⟨hFr q (k5 q hq).1, (k5 q hq).2⟩, h.b, by rw [List.length_drop]; have := h.b; omega, fun _ => ⟨HBG.out.1, fun _ => ⟨rfl, rfl⟩⟩⟩, hlt8, by show l.n + 1 ≤ _; omega, h.gen, h.b, Nat.le_refl _, fun _ => hg1⟩, hcw⟩
      clear hR
      go_wp2_with fail
      refine held_begin (fun V => V.rangeAt gb 0 [.int .i64 ((l.n + 1 : Nat) : Int), .int .i64 (l.gen : Int), .int .i64 (l.b.length : Int)]) (by kernel_rfl) ?_
      refine held_take 0 33 _ (.pointer (some ⟨G, 0, none⟩)) rfl rfl (by kernel_rfl) (by kernel_rfl) (by kernel_rfl) rfl hT0 (fun _ _ => rfl) ?_
      simp only [Act.put, List.setIfInBounds_toArray, List.set_cons_succ, List.set_cons_zero]
      refine held_take 1 34 _ (headV (l.n + 1) l.gen l.b.length) rfl rfl (by kernel_rfl) (by kernel_rfl) (by kernel_rfl) rfl hT0 (fun V hV => exec_load 93 _ rfl gb 0 rfl [.int .i64 ((l.n + 1 : Nat) : Int), .int .i64 (l.gen : Int), .int .i64 (l.b.length : Int)] _ hV Tryz.underlying93 rfl Tryz.info93s) ?_
      simp only [Act.put, List.setIfInBounds_toArray, List.set_cons_succ, List.set_cons_zero]
      refine held_take 2 35 _ (.pointer (some ⟨G, 0, none⟩)) rfl rfl (by kernel_rfl) (by kernel_rfl) (by kernel_rfl) rfl hT0 (fun _ _ => rfl) ?_
      simp only [Act.put, List.setIfInBounds_toArray, List.set_cons_succ, List.set_cons_zero]
      refine held_take 4 37 _ (.pointer (some ⟨G, 0, none⟩)) rfl rfl (by kernel_rfl) (by kernel_rfl) (by kernel_rfl) rfl hT0 (fun _ _ => rfl) ?_
      simp only [Act.put, List.setIfInBounds_toArray, List.set_cons_succ, List.set_cons_zero]
      refine held_take 5 38 _ (.pointer (some ⟨G, 0, none⟩)) rfl rfl (by kernel_rfl) (by kernel_rfl) (by kernel_rfl) rfl hT0 (fun _ _ => rfl) ?_
      simp only [Act.put, List.setIfInBounds_toArray, List.set_cons_succ, List.set_cons_zero]
      refine held_take 6 39 _ (.pointer (some ⟨G, 7, none⟩)) rfl rfl (by kernel_rfl) (by kernel_rfl) (by kernel_rfl) rfl hT0 (fun _ _ => rfl) ?_
      simp only [Act.put, List.setIfInBounds_toArray, List.set_cons_succ, List.set_cons_zero]
      refine held_all2 3 7 (by kernel_rfl) ?_ ?_
      · refine op_call 3 36 _ 97 #[.pointer (some ⟨G, 0, none⟩)] rfl rfl rfl (exec_one 97 _ _ rfl _ rfl Tryz.call97) ((HFU.out W7.drew hbD).mono ?_)
        rintro e W8 ⟨rfl, hw8⟩
        obtain rfl := hw8.symm
        clear hw8
        refine ⟨_, rfl, hT0, ?_⟩
        simp only [Act.put, List.setIfInBounds_toArray, List.set_cons_succ, List.set_cons_zero]
        refine held_all1 7 (by kernel_rfl) (op_value 7 40 _ (.slice ta tb.length tc) W7.drew rfl rfl rfl (exec_loadc 34 _ rfl _ _ rfl (load_one 34 (fun _ => by kernel_rfl) _ _ _ _ (HCL.out W7.drew hbD).2.2.2)) ⟨hT0, ?_⟩)
        simp only [Act.put, List.setIfInBounds_toArray, List.set_cons_succ, List.set_cons_zero]
        refine held_all1 8 (by kernel_rfl) (op_call 8 41 _ 55 #[.pointer (some ⟨G, 0, none⟩), headV (l.n + 1) l.gen l.b.length, .int .i64 ((l.sure / 128 : Nat) : Int), .slice ta tb.length tc] rfl rfl rfl (exec_four8 55 _ _ _ _ _ rfl _ _ _ _ rfl rfl rfl rfl Tryz.call55) (HST.out.mono ?_))
        rintro e W8 ⟨rfl, hse⟩
        have hT8 := HT8.out W8 hse
        refine ⟨_, rfl, hT8, ?_⟩
        simp only [Act.put, List.setIfInBounds_toArray, List.set_cons_succ, List.set_cons_zero]
        refine held_all1 9 (by kernel_rfl) (op_value 9 2 _ (.int .i64 Y.1) W8 rfl rfl rfl rfl ⟨hT8, ?_⟩)
        simp only [Act.put, List.setIfInBounds_toArray, List.set_cons_succ, List.set_cons_zero]
        refine wpAnyH_done (by kernel_rfl) ?_ _
        refine NoPanic.normal ?_
        obtain ⟨f1, f2, f3⟩ := HFIN.out W8 hse
        go_wp2_with fail
        go_ret
        rw [f1]
        exact ⟨rfl, f2, f3⟩
      · refine op_value 7 40 _ (.slice ta tb.length tc) W7.drew rfl rfl rfl (exec_loadc 34 _ rfl _ _ rfl (load_one 34 (fun _ => by kernel_rfl) _ _ _ _ (HCL.out W7.drew hbD).2.2.2)) ⟨hT0, ?_⟩
        simp only [Act.put, List.setIfInBounds_toArray, List.set_cons_succ, List.set_cons_zero]
        refine held_all1 3 (by kernel_rfl) (op_call 3 36 _ 97 #[.pointer (some ⟨G, 0, none⟩)] rfl rfl rfl (exec_one 97 _ _ rfl _ rfl Tryz.call97) ((HFU.out W7.drew hbD).mono ?_))
        rintro e W8 ⟨rfl, hw8⟩
        obtain rfl := hw8.symm
        clear hw8
        refine ⟨_, rfl, hT0, ?_⟩
        simp only [Act.put, List.setIfInBounds_toArray, List.set_cons_succ, List.set_cons_zero]
        refine held_all1 8 (by kernel_rfl) (op_call 8 41 _ 55 #[.pointer (some ⟨G, 0, none⟩), headV (l.n + 1) l.gen l.b.length, .int .i64 ((l.sure / 128 : Nat) : Int), .slice ta tb.length tc] rfl rfl rfl (exec_four8 55 _ _ _ _ _ rfl _ _ _ _ rfl rfl rfl rfl Tryz.call55) (HST.out.mono ?_))
        rintro e W8 ⟨rfl, hse⟩
        have hT8 := HT8.out W8 hse
        refine ⟨_, rfl, hT8, ?_⟩
        simp only [Act.put, List.setIfInBounds_toArray, List.set_cons_succ, List.set_cons_zero]
        refine held_all1 9 (by kernel_rfl) (op_value 9 2 _ (.int .i64 Y.1) W8 rfl rfl rfl rfl ⟨hT8, ?_⟩)
        simp only [Act.put, List.setIfInBounds_toArray, List.set_cons_succ, List.set_cons_zero]
        refine wpAnyH_done (by kernel_rfl) ?_ _
        refine NoPanic.normal ?_
        obtain ⟨f1, f2, f3⟩ := HFIN.out W8 hse
        go_wp2_with fail
        go_ret
        rw [f1]
        exact ⟨rfl, f2, f3⟩
end Go.Proofs.YtbegphfideopoaaGreat
namespace Go.Proofs.YtbegphfideopoaaGreat
open Go.RowKit

theorem exec_add8 {a : Act} {o : Oper} {w : World} (t : TypeId) (x y : Operand) (ho : o.op = .binOp .add t x y t) (m n r : Int) (hx : a.eval x = .int .i64 m) (hy : a.eval y = .int .i64 n) (h : IntKind.i64.wrap (m + n) = r) : (execOp a.eval o).run Tryz.prog w = .ok (.value (.int .i64 r)) w := by
  unfold execOp
  simp [ho, hx, hy]
  rw [← h]
  rfl
theorem inB_both {n g : Nat} : inB (n + 1) (g + 1) = decide (¬ (1048576 < g + 1 ∨ 1073741824 ≤ n)) := by
  unfold inB
  rw [decide_eq_true (by omega : 1 ≤ n + 1), decide_eq_true (by omega : 1 ≤ g + 1)]
  rw [Bool.eq_iff_iff]
  simp
  omega
set_option maxRecDepth 100000 in
set_option maxHeartbeats 8000000 in
theorem pb_check {w : World} {G : Nat} {L : PLay} {C : Nat → Prop} {s : DS} {l : LS} (h : PB w G L C s l) (x : Value) (st : List UInt8) (hS : Seg w x st) (hm : st.length ≤ 1000000) :
    Calls Tryz.prog 29 #[.pointer (some ⟨G, 0, none⟩), x] w fun e w' => e = .returned (.int .i64 (checkW s l st).1) ∧ PB w' G L (Fr C w w') (checkW s l st).2.1 (checkW s l st).2.2 ∧ Chg C w w' := by
  obtain ⟨CD, len, bg, tv, tb, h1, h2, h3, h4, h5, h6, h7, h8, h9, h10⟩ := id h.body
  obtain ⟨ax, cx, rfl⟩ := Seg.shapeD hS
  obtain ⟨R, hR⟩ : ∃ R, R = checkW s l st := ⟨_, rfl⟩
  rw [← hR]
  unfold checkW at hR
  have hrefl : PB w G L (Fr C w w) s l := h.fr (Below.refl _ _)
  have hb6 : w.cell? ⟨G, 6, none⟩ = some (.bool l.broke) := h3.cell (j := 6) rfl
  cases hk : l.broke with
  | true =>
    rw [hk] at hb6
    rw [hk, if_pos rfl] at hR
    have HR : Hid (R = (10, s, l)) := hR
    clear hR hk h10 h3
    go_enter Tryz.func29, Tryz.ntmps29
    go_wp2_with fail
    go_ret
    rw [HR.out]
    exact ⟨rfl, hrefl, Chg.refl _ _⟩
  | false =>
    rw [hk] at hb6
    rw [hk, if_neg (by decide)] at hR
    have hsz := size_lt h1.d.ok h1.d.lay.max
    have hn := h.n
    have hgn := h.gen
    obtain ⟨ta, tc, rfl⟩ := Seg.shapeD h4.seg
    have hGl : G < w.heap.size := Blk.lt h3
    have hsl : (stateB st).length ≤ 1100000 := by rw [stateB_len]; omega
    have hsb : ∀ W : World, Below w.heap.size w W → Seg W (.slice ax st.length cx) st := fun W hW => hS.below hW (Nat.le_refl _)
    have HSZ : Hid (∀ W : World, Below w.heap.size w W → Calls Tryz.prog 53 #[.slice ax st.length cx] W fun e w' => e = .returned (.int .i64 ((stateB st).length : Int)) ∧ w' = W) := fun W hW => stateSz_any _ st W (hsb W hW) (by omega)
    have HSP : Hid (∀ W : World, Below w.heap.size w W → Calls Tryz.prog 56 #[.slice ax st.length cx] W fun e w' => ∃ v, e = .returned v ∧ Own w' W.heap.size v (stateB st) ∧ Below W.heap.size W w') := fun W hW => stateP_any _ st W (hsb W hW) hm
    obtain ⟨SB, hSB⟩ : ∃ SB, SB = stateB st := ⟨_, rfl⟩
    rw [← hSB] at HSZ HSP hsl hR
    have HLB : Hid (∀ W : World, Below w.heap.size w W → LogB W G L.g (sizeS s) l.n l.gen len bg false (.slice ta tb.length tc)) := fun W hW => by
      have := Blk.below h3 hW hGl
      rw [hk] at this
      exact this
    have HCL : Hid (∀ W : World, Below w.heap.size w W → W.rangeAt G 2 [.int .i64 (l.n : Int), .int .i64 (l.gen : Int), .int .i64 (len : Int)] ∧ W.cell? ⟨G, 3, none⟩ = some (.int .i64 (l.gen : Int)) ∧ W.cell? ⟨G, 1, none⟩ = some (.int .i64 (sizeS s : Int))) := fun W hW => by
      have hb := HLB.out W hW
      exact ⟨Blk.range hb 2 _ (fun j v hv => by
          match j, hv with
          | 0, hv => exact hv
          | 1, hv => exact hv
          | 2, hv => exact hv
          | (k + 3), hv => simp at hv), hb.cell (j := 3) rfl, hb.cell (j := 1) rfl⟩
    have hgs : G ≠ w.heap.size := by omega
    have hwr : IntKind.i64.wrap ((l.gen : Int) + 1) = ((l.gen + 1 : Nat) : Int) := by rw [IntKind.wrap_i64]; omega
    have HGT : Hid (∀ q, (Value.slice ta tb.length tc).ownBlock = some q → q ≠ G) := fun q hq e => by
      obtain ⟨c', f', hcf⟩ := own_cells h4 hq
      rw [e, show _ = _ from h3] at hcf
      cases hcf
    clear hrefl h10
    go_enter Tryz.func29, Tryz.ntmps29
    go_wp2_with fail
    have hS0 := HCL.out w.drew ((Below.refl _ _).drew)
    refine Code.wp_mono (Q := fun e a' W' => e = .normal ∧ ∃ gb, a' = { tmps := #[.pointer (some ⟨G, 0, none⟩), .slice ax st.length cx, undef, undef, .int .i64 0, .pointer (some ⟨gb, 0, none⟩), undef, .pointer (some ⟨G, 0, none⟩), .pointer (some ⟨G, 0, none⟩), .pointer (some ⟨G, 6, none⟩), .bool false, .pointer (some ⟨G, 0, none⟩), .pointer (some ⟨G, 0, none⟩), .pointer (some ⟨G, 2, none⟩), headV l.n l.gen len, .pointer (some ⟨G, 0, none⟩), .pointer (some ⟨G, 0, none⟩), .pointer (some ⟨G, 2, none⟩), .pointer (some ⟨G, 3, none⟩), .int .i64 (l.gen : Int), .int .i64 ((l.gen + 1 : Nat) : Int), .slice ax st.length cx, .int .i64 (SB.length : Int), headV (l.n + 1) (l.gen + 1) SB.length, undef, undef, undef, undef, undef, undef, undef, undef, undef, undef, undef, undef, undef, undef, undef, undef, undef, undef, undef, undef, undef, undef, undef], defers := [] } ∧ w.heap.size ≤ gb ∧ Blk W' gb 93 #[.int .i64 ((l.n + 1 : Nat) : Int), .int .i64 ((l.gen + 1 : Nat) : Int), .int .i64 (SB.length : Int)] ∧ Below w.heap.size w W') ?_ ?_
    rotate_left
    · refine held_begin (fun V => V.rangeAt G 2 [.int .i64 (l.n : Int), .int .i64 (l.gen : Int), .int .i64 (len : Int)] ∧ V.cell? ⟨G, 3, none⟩ = some (.int .i64 (l.gen : Int)) ∧ V.cell? ⟨G, 1, none⟩ = some (.int .i64 (sizeS s : Int))) (by kernel_rfl) ?_
      refine held_take 0 11 _ (.pointer (some ⟨G, 0, none⟩)) rfl rfl (by kernel_rfl) (by kernel_rfl) (by kernel_rfl) rfl hS0 (fun _ _ => rfl) ?_
      simp only [Act.put, List.setIfInBounds_toArray, List.set_cons_succ, List.set_cons_zero]
      refine held_take 1 12 _ (.pointer (some ⟨G, 0, none⟩)) rfl rfl (by kernel_rfl) (by kernel_rfl) (by kernel_rfl) rfl hS0 (fun _ _ => rfl) ?_
      simp only [Act.put, List.setIfInBounds_toArray, List.set_cons_succ, List.set_cons_zero]
      refine held_take 2 13 _ (.pointer (some ⟨G, 2, none⟩)) rfl rfl (by kernel_rfl) (by kernel_rfl) (by kernel_rfl) rfl hS0 (fun _ _ => rfl) ?_
      simp only [Act.put, List.setIfInBounds_toArray, List.set_cons_succ, List.set_cons_zero]
      refine held_take 3 14 _ (headV l.n l.gen len) rfl rfl (by kernel_rfl) (by kernel_rfl) (by kernel_rfl) rfl hS0 (fun V hV => exec_load 93 _ rfl G 2 rfl [.int .i64 (l.n : Int), .int .i64 (l.gen : Int), .int .i64 (len : Int)] _ hV.1 Tryz.underlying93 rfl Tryz.info93s) ?_
      simp only [Act.put, List.setIfInBounds_toArray, List.set_cons_succ, List.set_cons_zero]
      refine held_take 4 15 _ (.pointer (some ⟨G, 0, none⟩)) rfl rfl (by kernel_rfl) (by kernel_rfl) (by kernel_rfl) rfl hS0 (fun _ _ => rfl) ?_
      simp only [Act.put, List.setIfInBounds_toArray, List.set_cons_succ, List.set_cons_zero]
      refine held_take 5 16 _ (.pointer (some ⟨G, 0, none⟩)) rfl rfl (by kernel_rfl) (by kernel_rfl) (by kernel_rfl) rfl hS0 (fun _ _ => rfl) ?_
      simp only [Act.put, List.setIfInBounds_toArray, List.set_cons_succ, List.set_cons_zero]
      refine held_take 6 17 _ (.pointer (some ⟨G, 2, none⟩)) rfl rfl (by kernel_rfl) (by kernel_rfl) (by kernel_rfl) rfl hS0 (fun _ _ => rfl) ?_
      simp only [Act.put, List.setIfInBounds_toArray, List.set_cons_succ, List.set_cons_zero]
      refine held_take 7 18 _ (.pointer (some ⟨G, 3, none⟩)) rfl rfl (by kernel_rfl) (by kernel_rfl) (by kernel_rfl) rfl hS0 (fun _ _ => rfl) ?_
      simp only [Act.put, List.setIfInBounds_toArray, List.set_cons_succ, List.set_cons_zero]
      refine held_take 8 19 _ (.int .i64 (l.gen : Int)) rfl rfl (by kernel_rfl) (by kernel_rfl) (by kernel_rfl) rfl hS0 (fun V hV => exec_loadc 3 _ rfl _ _ rfl (load_one 3 (fun _ => by kernel_rfl) V _ _ _ hV.2.1)) ?_
      simp only [Act.put, List.setIfInBounds_toArray, List.set_cons_succ, List.set_cons_zero]
      refine held_take 9 20 _ (.int .i64 ((l.gen + 1 : Nat) : Int)) rfl rfl (by kernel_rfl) (by kernel_rfl) (by kernel_rfl) rfl hS0 (fun V _ => exec_add8 _ _ _ rfl _ _ _ rfl rfl hwr) ?_
      simp only [Act.put, List.setIfInBounds_toArray, List.set_cons_succ, List.set_cons_zero]
      refine held_take 10 21 _ (.slice ax st.length cx) rfl rfl (by kernel_rfl) (by kernel_rfl) (by kernel_rfl) rfl hS0 (fun _ _ => rfl) ?_
      simp only [Act.put, List.setIfInBounds_toArray, List.set_cons_succ, List.set_cons_zero]
      refine held_all2 11 13 (by kernel_rfl) ?_ ?_
      · refine op_call 11 22 _ 53 #[.slice ax st.length cx] rfl rfl rfl (exec_one 53 _ _ rfl _ rfl Tryz.call53) ((HSZ.out _ ((Below.refl w.heap.size w).drew)).mono ?_)
        rintro e W1 ⟨rfl, hw1⟩
        obtain rfl := hw1.symm
        clear hw1
        have hx0 := Below.refl (w.drew).heap.size w.drew
        refine ⟨_, rfl, HCL.out _ ((Below.refl w.heap.size w).drew), ?_⟩
        simp only [Act.put, List.setIfInBounds_toArray, List.set_cons_succ, List.set_cons_zero]
        refine held_all2 12 13 (by kernel_rfl) ?_ ?_
        · refine op_call 12 23 _ 52 #[headV l.n l.gen len, .int .i64 ((l.gen + 1 : Nat) : Int), .int .i64 (SB.length : Int)] rfl rfl rfl (exec_three8 52 _ _ _ _ rfl _ _ _ rfl rfl rfl Tryz.call52) ((follow_any l.n l.gen len (l.gen + 1) SB.length _ (by omega)).mono ?_)
          rintro e W2 ⟨rfl, hx1⟩
          refine ⟨_, rfl, HCL.out _ (((Below.refl w.heap.size w).drew).trans (hx1.mono ((Below.refl w.heap.size w).drew).size)), ?_⟩
          simp only [Act.put, List.setIfInBounds_toArray, List.set_cons_succ, List.set_cons_zero]
          have hkA : Blk (W2.alloc (.cells #[.int .i64 0, .int .i64 0, .int .i64 0] 93)) W2.heap.size 93 #[.int .i64 0, .int .i64 0, .int .i64 0] := Blk.new _ _ _
          have hlA : w.heap.size ≤ W2.heap.size := (((Below.refl w.heap.size w).drew).trans (hx1.mono ((Below.refl w.heap.size w).drew).size)).size
          refine held_all1 13 (by kernel_rfl) (op_value 13 5 _ (.pointer (some ⟨W2.heap.size, 0, none⟩)) _ rfl rfl rfl (exec_alloc7 rfl) ⟨HCL.out _ ((((Below.refl w.heap.size w).drew).trans (hx1.mono ((Below.refl w.heap.size w).drew).size)).alloc (((Below.refl w.heap.size w).drew).trans (hx1.mono ((Below.refl w.heap.size w).drew).size)).size _), ?_⟩)
          simp only [Act.put, List.setIfInBounds_toArray, List.set_cons_succ, List.set_cons_zero]
          refine held_all1 14 (by kernel_rfl) (op_row 14 _ rfl rfl rfl 93 _ _ rfl _ #[.int .i64 ((l.n + 1 : Nat) : Int), .int .i64 ((l.gen + 1 : Nat) : Int), .int .i64 (SB.length : Int)] rfl rfl 93 _ (hkA) Tryz.info93s rfl (by simp [Value.oneCell']) ?_)
          intro W9 hb9 hg9 hs9
          have hB9 : Below w.heap.size w W9 := below_grown ((((Below.refl w.heap.size w).drew).trans (hx1.mono ((Below.refl w.heap.size w).drew).size)).alloc (((Below.refl w.heap.size w).drew).trans (hx1.mono ((Below.refl w.heap.size w).drew).size)).size _) hg9 ((((Below.refl w.heap.size w).drew).trans (hx1.mono ((Below.refl w.heap.size w).drew).size)).alloc (((Below.refl w.heap.size w).drew).trans (hx1.mono ((Below.refl w.heap.size w).drew).size)).size _).size (fun q hq => by cases hq; exact hlA)
          refine ⟨HCL.out W9 hB9, ?_⟩
          refine wpAnyH_done (by kernel_rfl) ?_ _
          refine NoPanic.normal ?_
          exact ⟨rfl, _, rfl, hlA, hb9, hB9⟩
        · have hkA : Blk (w.drew.alloc (.cells #[.int .i64 0, .int .i64 0, .int .i64 0] 93)) w.drew.heap.size 93 #[.int .i64 0, .int .i64 0, .int .i64 0] := Blk.new _ _ _
          have hlA : w.heap.size ≤ w.drew.heap.size := ((Below.refl w.heap.size w).drew).size
          refine op_value 13 5 _ (.pointer (some ⟨w.drew.heap.size, 0, none⟩)) _ rfl rfl rfl (exec_alloc7 rfl) ⟨HCL.out _ (((Below.refl w.heap.size w).drew).alloc ((Below.refl w.heap.size w).drew).size _), ?_⟩
          simp only [Act.put, List.setIfInBounds_toArray, List.set_cons_succ, List.set_cons_zero]
          refine held_all1 12 (by kernel_rfl) (op_call 12 23 _ 52 #[headV l.n l.gen len, .int .i64 ((l.gen + 1 : Nat) : Int), .int .i64 (SB.length : Int)] rfl rfl rfl (exec_three8 52 _ _ _ _ rfl _ _ _ rfl rfl rfl Tryz.call52) ((follow_any l.n l.gen len (l.gen + 1) SB.length _ (by omega)).mono ?_))
          rintro e W2 ⟨rfl, hx1⟩
          refine ⟨_, rfl, HCL.out _ ((((Below.refl w.heap.size w).drew).alloc ((Below.refl w.heap.size w).drew).size _).trans (hx1.mono (((Below.refl w.heap.size w).drew).alloc ((Below.refl w.heap.size w).drew).size _).size)), ?_⟩
          simp only [Act.put, List.setIfInBounds_toArray, List.set_cons_succ, List.set_cons_zero]
          refine held_all1 14 (by kernel_rfl) (op_row 14 _ rfl rfl rfl 93 _ _ rfl _ #[.int .i64 ((l.n + 1 : Nat) : Int), .int .i64 ((l.gen + 1 : Nat) : Int), .int .i64 (SB.length : Int)] rfl rfl 93 _ (hkA.below hx1 hkA.lt) Tryz.info93s rfl (by simp [Value.oneCell']) ?_)
          intro W9 hb9 hg9 hs9
          have hB9 : Below w.heap.size w W9 := below_grown ((((Below.refl w.heap.size w).drew).alloc ((Below.refl w.heap.size w).drew).size _).trans (hx1.mono (((Below.refl w.heap.size w).drew).alloc ((Below.refl w.heap.size w).drew).size _).size)) hg9 ((((Below.refl w.heap.size w).drew).alloc ((Below.refl w.heap.size w).drew).size _).trans (hx1.mono (((Below.refl w.heap.size w).drew).alloc ((Below.refl w.heap.size w).drew).size _).size)).size (fun q hq => by cases hq; exact hlA)
          refine ⟨HCL.out W9 hB9, ?_⟩
          refine wpAnyH_done (by kernel_rfl) ?_ _
          refine NoPanic.normal ?_
          exact ⟨rfl, _, rfl, hlA, hb9, hB9⟩
      · have hkA : Blk (w.drew.alloc (.cells #[.int .i64 0, .int .i64 0, .int .i64 0] 93)) w.drew.heap.size 93 #[.int .i64 0, .int .i64 0, .int .i64 0] := Blk.new _ _ _
        have hlA : w.heap.size ≤ w.drew.heap.size := ((Below.refl w.heap.size w).drew).size
        refine op_value 13 5 _ (.pointer (some ⟨w.drew.heap.size, 0, none⟩)) _ rfl rfl rfl (exec_alloc7 rfl) ⟨HCL.out _ (((Below.refl w.heap.size w).drew).alloc ((Below.refl w.heap.size w).drew).size _), ?_⟩
        simp only [Act.put, List.setIfInBounds_toArray, List.set_cons_succ, List.set_cons_zero]
        refine held_all1 11 (by kernel_rfl) (op_call 11 22 _ 53 #[.slice ax st.length cx] rfl rfl rfl (exec_one 53 _ _ rfl _ rfl Tryz.call53) ((HSZ.out _ (((Below.refl w.heap.size w).drew).alloc ((Below.refl w.heap.size w).drew).size _)).mono ?_))
        rintro e W1 ⟨rfl, hw1⟩
        obtain rfl := hw1.symm
        clear hw1
        have hx0 := Below.refl ((w.drew.alloc (.cells #[.int .i64 0, .int .i64 0, .int .i64 0] 93))).heap.size (w.drew.alloc (.cells #[.int .i64 0, .int .i64 0, .int .i64 0] 93))
        refine ⟨_, rfl, HCL.out _ (((Below.refl w.heap.size w).drew).alloc ((Below.refl w.heap.size w).drew).size _), ?_⟩
        simp only [Act.put, List.setIfInBounds_toArray, List.set_cons_succ, List.set_cons_zero]
        refine held_all1 12 (by kernel_rfl) (op_call 12 23 _ 52 #[headV l.n l.gen len, .int .i64 ((l.gen + 1 : Nat) : Int), .int .i64 (SB.length : Int)] rfl rfl rfl (exec_three8 52 _ _ _ _ rfl _ _ _ rfl rfl rfl Tryz.call52) ((follow_any l.n l.gen len (l.gen + 1) SB.length _ (by omega)).mono ?_))
        rintro e W2 ⟨rfl, hx1⟩
        refine ⟨_, rfl, HCL.out _ ((((Below.refl w.heap.size w).drew).alloc ((Below.refl w.heap.size w).drew).size _).trans (hx1.mono (((Below.refl w.heap.size w).drew).alloc ((Below.refl w.heap.size w).drew).size _).size)), ?_⟩
        simp only [Act.put, List.setIfInBounds_toArray, List.set_cons_succ, List.set_cons_zero]
        refine held_all1 14 (by kernel_rfl) (op_row 14 _ rfl rfl rfl 93 _ _ rfl _ #[.int .i64 ((l.n + 1 : Nat) : Int), .int .i64 ((l.gen + 1 : Nat) : Int), .int .i64 (SB.length : Int)] rfl rfl 93 _ ((hkA.below hx0 hkA.lt).below hx1 (hkA.below hx0 hkA.lt).lt) Tryz.info93s rfl (by simp [Value.oneCell']) ?_)
        intro W9 hb9 hg9 hs9
        have hB9 : Below w.heap.size w W9 := below_grown ((((Below.refl w.heap.size w).drew).alloc ((Below.refl w.heap.size w).drew).size _).trans (hx1.mono (((Below.refl w.heap.size w).drew).alloc ((Below.refl w.heap.size w).drew).size _).size)) hg9 ((((Below.refl w.heap.size w).drew).alloc ((Below.refl w.heap.size w).drew).size _).trans (hx1.mono (((Below.refl w.heap.size w).drew).alloc ((Below.refl w.heap.size w).drew).size _).size)).size (fun q hq => by cases hq; exact hlA)
        refine ⟨HCL.out W9 hB9, ?_⟩
        refine wpAnyH_done (by kernel_rfl) ?_ _
        refine NoPanic.normal ?_
        exact ⟨rfl, _, rfl, hlA, hb9, hB9⟩
    rintro e a' W4 ⟨rfl, gb, rfl, hgb, hkb, hB4⟩
    have hB5 : Below w.heap.size w W4.drew := hB4.drew
    have hT : ∀ W : World, Blk W gb 93 #[.int .i64 ((l.n + 1 : Nat) : Int), .int .i64 ((l.gen + 1 : Nat) : Int), .int .i64 (SB.length : Int)] → W.rangeAt gb 0 [.int .i64 ((l.n + 1 : Nat) : Int), .int .i64 ((l.gen + 1 : Nat) : Int), .int .i64 (SB.length : Int)] := fun W hW => Blk.range hW 0 _ (fun j v hv => by
          match j, hv with
          | 0, hv => exact hv
          | 1, hv => exact hv
          | 2, hv => exact hv
          | (k + 3), hv => simp at hv)
    have hS5 : W4.drew.cell? ⟨gb, 2, none⟩ = some (.int .i64 (SB.length : Int)) ∧ W4.drew.cell? ⟨G, 1, none⟩ = some (.int .i64 (sizeS s : Int)) ∧ W4.drew.rangeAt gb 0 [.int .i64 ((l.n + 1 : Nat) : Int), .int .i64 ((l.gen + 1 : Nat) : Int), .int .i64 (SB.length : Int)] := ⟨Blk.cell (w := W4.drew) (j := 2) hkb rfl, (HCL.out _ hB5).2.2, hT W4.drew hkb⟩
    go_wp2_with fail
    by_cases c1 : sizeS s < SB.length
    · have H5 : decide ((sizeS s : Int) < (SB.length : Int)) = true := decide_eq_true (by omega)
      rw [if_pos (.inl c1)] at hR
      have HR : Hid (R = (3, s, l)) := hR
      clear hR
      refine held_begin (fun V => V.cell? ⟨gb, 2, none⟩ = some (.int .i64 (SB.length : Int)) ∧ V.cell? ⟨G, 1, none⟩ = some (.int .i64 (sizeS s : Int)) ∧ V.rangeAt gb 0 [.int .i64 ((l.n + 1 : Nat) : Int), .int .i64 ((l.gen + 1 : Nat) : Int), .int .i64 (SB.length : Int)]) (by kernel_rfl) ?_
      refine held_take 0 24 _ (.pointer (some ⟨gb, 2, none⟩)) rfl rfl (by kernel_rfl) (by kernel_rfl) (by kernel_rfl) rfl hS5 (fun _ _ => rfl) ?_
      simp only [Act.put, List.setIfInBounds_toArray, List.set_cons_succ, List.set_cons_zero]
      refine held_take 1 25 _ (.int .i64 (SB.length : Int)) rfl rfl (by kernel_rfl) (by kernel_rfl) (by kernel_rfl) rfl hS5 (fun V hV => exec_loadc 3 _ rfl _ _ rfl (load_one 3 (fun _ => by kernel_rfl) V _ _ _ hV.1)) ?_
      simp only [Act.put, List.setIfInBounds_toArray, List.set_cons_succ, List.set_cons_zero]
      refine held_take 2 26 _ (.pointer (some ⟨G, 0, none⟩)) rfl rfl (by kernel_rfl) (by kernel_rfl) (by kernel_rfl) rfl hS5 (fun _ _ => rfl) ?_
      simp only [Act.put, List.setIfInBounds_toArray, List.set_cons_succ, List.set_cons_zero]
      refine held_take 3 27 _ (.pointer (some ⟨G, 0, none⟩)) rfl rfl (by kernel_rfl) (by kernel_rfl) (by kernel_rfl) rfl hS5 (fun _ _ => rfl) ?_
      simp only [Act.put, List.setIfInBounds_toArray, List.set_cons_succ, List.set_cons_zero]
      refine held_take 4 28 _ (.pointer (some ⟨G, 1, none⟩)) rfl rfl (by kernel_rfl) (by kernel_rfl) (by kernel_rfl) rfl hS5 (fun _ _ => rfl) ?_
      simp only [Act.put, List.setIfInBounds_toArray, List.set_cons_succ, List.set_cons_zero]
      refine held_take 5 29 _ (.int .i64 (sizeS s : Int)) rfl rfl (by kernel_rfl) (by kernel_rfl) (by kernel_rfl) rfl hS5 (fun V hV => exec_loadc 3 _ rfl _ _ rfl (load_one 3 (fun _ => by kernel_rfl) V _ _ _ hV.2.1)) ?_
      simp only [Act.put, List.setIfInBounds_toArray, List.set_cons_succ, List.set_cons_zero]
      refine held_take 6 30 _ (.bool true) rfl rfl (by kernel_rfl) (by kernel_rfl) (by kernel_rfl) rfl hS5 (fun V _ => exec_gtr7 _ _ _ rfl _ _ _ rfl rfl H5) ?_
      simp only [Act.put, List.setIfInBounds_toArray, List.set_cons_succ, List.set_cons_zero]
      refine held_take 7 31 _ (.bool true) rfl rfl (by kernel_rfl) (by kernel_rfl) (by kernel_rfl) rfl hS5 (fun _ _ => rfl) ?_
      simp only [Act.put, List.setIfInBounds_toArray, List.set_cons_succ, List.set_cons_zero]
      refine held_pass 8 32 _ rfl rfl (by kernel_rfl) (by kernel_rfl) (by kernel_rfl) rfl hS5 ?_
      simp only [Act.put, List.setIfInBounds_toArray, List.set_cons_succ, List.set_cons_zero]
      refine held_pass 9 33 _ rfl rfl (by kernel_rfl) (by kernel_rfl) (by kernel_rfl) rfl hS5 ?_
      simp only [Act.put, List.setIfInBounds_toArray, List.set_cons_succ, List.set_cons_zero]
      refine held_pass 10 34 _ rfl rfl (by kernel_rfl) (by kernel_rfl) (by kernel_rfl) rfl hS5 ?_
      simp only [Act.put, List.setIfInBounds_toArray, List.set_cons_succ, List.set_cons_zero]
      refine held_take 11 35 _ (.bool true) rfl rfl (by kernel_rfl) (by kernel_rfl) (by kernel_rfl) rfl hS5 (fun _ _ => rfl) ?_
      simp only [Act.put, List.setIfInBounds_toArray, List.set_cons_succ, List.set_cons_zero]
      refine wpAnyH_done (by kernel_rfl) ?_ _
      refine NoPanic.normal ?_
      go_wp2_with fail
      go_ret
      rw [HR.out]
      exact ⟨rfl, h.fr hB5, Chg.of_below hB5 (Nat.le_refl _)⟩
    have H5 : decide ((sizeS s : Int) < (SB.length : Int)) = false := decide_eq_false (by omega)
    have HIN : Hid (Calls Tryz.prog 54 #[headV (l.n + 1) (l.gen + 1) SB.length] W4.drew fun e w' => e = .returned (.bool (inB (l.n + 1) (l.gen + 1))) ∧ Below W4.drew.heap.size W4.drew w') := inB_any _ _ _ _
    have HS7 : Hid (∀ W7, Below W4.drew.heap.size W4.drew W7 → W7.cell? ⟨gb, 2, none⟩ = some (.int .i64 (SB.length : Int)) ∧ W7.cell? ⟨G, 1, none⟩ = some (.int .i64 (sizeS s : Int)) ∧ W7.rangeAt gb 0 [.int .i64 ((l.n + 1 : Nat) : Int), .int .i64 ((l.gen + 1 : Nat) : Int), .int .i64 (SB.length : Int)]) := fun W7 hW => by
      have hk7 := Blk.below (w := W4.drew) hkb hW (Blk.lt hkb)
      exact ⟨hk7.cell (j := 2) rfl, (HCL.out _ (hB5.trans (hW.mono hB5.size))).2.2, hT _ hk7⟩
    rw [inB_both] at HIN
    by_cases c2 : 1048576 < l.gen + 1 ∨ 1073741824 ≤ l.n
    · rw [if_pos (.inr c2)] at hR
      have HR : Hid (R = (3, s, l)) := hR
      rw [decide_eq_false (not_not_intro c2)] at HIN
      clear hR
      refine held_begin (fun V => V.cell? ⟨gb, 2, none⟩ = some (.int .i64 (SB.length : Int)) ∧ V.cell? ⟨G, 1, none⟩ = some (.int .i64 (sizeS s : Int)) ∧ V.rangeAt gb 0 [.int .i64 ((l.n + 1 : Nat) : Int), .int .i64 ((l.gen + 1 : Nat) : Int), .int .i64 (SB.length : Int)]) (by kernel_rfl) ?_
      refine held_take 0 24 _ (.pointer (some ⟨gb, 2, none⟩)) rfl rfl (by kernel_rfl) (by kernel_rfl) (by kernel_rfl) rfl hS5 (fun _ _ => rfl) ?_
      simp only [Act.put, List.setIfInBounds_toArray, List.set_cons_succ, List.set_cons_zero]
      refine held_take 1 25 _ (.int .i64 (SB.length : Int)) rfl rfl (by kernel_rfl) (by kernel_rfl) (by kernel_rfl) rfl hS5 (fun V hV => exec_loadc 3 _ rfl _ _ rfl (load_one 3 (fun _ => by kernel_rfl) V _ _ _ hV.1)) ?_
      simp only [Act.put, List.setIfInBounds_toArray, List.set_cons_succ, List.set_cons_zero]
      refine held_take 2 26 _ (.pointer (some ⟨G, 0, none⟩)) rfl rfl (by kernel_rfl) (by kernel_rfl) (by kernel_rfl) rfl hS5 (fun _ _ => rfl) ?_
      simp only [Act.put, List.setIfInBounds_toArray, List.set_cons_succ, List.set_cons_zero]
      refine held_take 3 27 _ (.pointer (some ⟨G, 0, none⟩)) rfl rfl (by kernel_rfl) (by kernel_rfl) (by kernel_rfl) rfl hS5 (fun _ _ => rfl) ?_
      simp only [Act.put, List.setIfInBounds_toArray, List.set_cons_succ, List.set_cons_zero]
      refine held_take 4 28 _ (.pointer (some ⟨G, 1, none⟩)) rfl rfl (by kernel_rfl) (by kernel_rfl) (by kernel_rfl) rfl hS5 (fun _ _ => rfl) ?_
      simp only [Act.put, List.setIfInBounds_toArray, List.set_cons_succ, List.set_cons_zero]
      refine held_take 5 29 _ (.int .i64 (sizeS s : Int)) rfl rfl (by kernel_rfl) (by kernel_rfl) (by kernel_rfl) rfl hS5 (fun V hV => exec_loadc 3 _ rfl _ _ rfl (load_one 3 (fun _ => by kernel_rfl) V _ _ _ hV.2.1)) ?_
      simp only [Act.put, List.setIfInBounds_toArray, List.set_cons_succ, List.set_cons_zero]
      refine held_take 6 30 _ (.bool false) rfl rfl (by kernel_rfl) (by kernel_rfl) (by kernel_rfl) rfl hS5 (fun V _ => exec_gtr7 _ _ _ rfl _ _ _ rfl rfl H5) ?_
      simp only [Act.put, List.setIfInBounds_toArray, List.set_cons_succ, List.set_cons_zero]
      refine held_take 7 31 _ (.bool false) rfl rfl (by kernel_rfl) (by kernel_rfl) (by kernel_rfl) rfl hS5 (fun _ _ => rfl) ?_
      simp only [Act.put, List.setIfInBounds_toArray, List.set_cons_succ, List.set_cons_zero]
      refine held_take 8 32 _ (headV (l.n + 1) (l.gen + 1) SB.length) rfl rfl (by kernel_rfl) (by kernel_rfl) (by kernel_rfl) rfl hS5 (fun V hV => exec_load 93 _ rfl gb 0 rfl [.int .i64 ((l.n + 1 : Nat) : Int), .int .i64 ((l.gen + 1 : Nat) : Int), .int .i64 (SB.length : Int)] _ hV.2.2 Tryz.underlying93 rfl Tryz.info93s) ?_
      simp only [Act.put, List.setIfInBounds_toArray, List.set_cons_succ, List.set_cons_zero]
      refine held_all1 9 (by kernel_rfl) (op_call 9 33 _ 54 #[headV (l.n + 1) (l.gen + 1) SB.length] rfl rfl rfl (exec_one 54 _ _ rfl _ rfl Tryz.call54) (HIN.out.mono ?_))
      rintro e W7 ⟨rfl, hB7⟩
      have hS7 := HS7.out W7 hB7
      refine ⟨_, rfl, hS7, ?_⟩
      simp only [Act.put, List.setIfInBounds_toArray, List.set_cons_succ, List.set_cons_zero]
      refine held_take 10 34 _ (.bool true) rfl rfl (by kernel_rfl) (by kernel_rfl) (by kernel_rfl) rfl hS7 (fun _ _ => rfl) ?_
      simp only [Act.put, List.setIfInBounds_toArray, List.set_cons_succ, List.set_cons_zero]
      refine held_take 11 35 _ (.bool true) rfl rfl (by kernel_rfl) (by kernel_rfl) (by kernel_rfl) rfl hS7 (fun _ _ => rfl) ?_
      simp only [Act.put, List.setIfInBounds_toArray, List.set_cons_succ, List.set_cons_zero]
      refine wpAnyH_done (by kernel_rfl) ?_ _
      refine NoPanic.normal ?_
      have hB8 : Below w.heap.size w W7 := hB5.trans (hB7.mono hB5.size)
      go_wp2_with fail
      go_ret
      rw [HR.out]
      exact ⟨rfl, h.fr hB8, Chg.of_below hB8 (Nat.le_refl _)⟩
    rw [if_neg (by rintro (e | e); exact c1 e; exact c2 e)] at hR
    rw [decide_eq_true c2] at HIN
    refine held_begin (fun V => V.cell? ⟨gb, 2, none⟩ = some (.int .i64 (SB.length : Int)) ∧ V.cell? ⟨G, 1, none⟩ = some (.int .i64 (sizeS s : Int)) ∧ V.rangeAt gb 0 [.int .i64 ((l.n + 1 : Nat) : Int), .int .i64 ((l.gen + 1 : Nat) : Int), .int .i64 (SB.length : Int)]) (by kernel_rfl) ?_
    refine held_take 0 24 _ (.pointer (some ⟨gb, 2, none⟩)) rfl rfl (by kernel_rfl) (by kernel_rfl) (by kernel_rfl) rfl hS5 (fun _ _ => rfl) ?_
    simp only [Act.put, List.setIfInBounds_toArray, List.set_cons_succ, List.set_cons_zero]
    refine held_take 1 25 _ (.int .i64 (SB.length : Int)) rfl rfl (by kernel_rfl) (by kernel_rfl) (by kernel_rfl) rfl hS5 (fun V hV => exec_loadc 3 _ rfl _ _ rfl (load_one 3 (fun _ => by kernel_rfl) V _ _ _ hV.1)) ?_
    simp only [Act.put, List.setIfInBounds_toArray, List.set_cons_succ, List.set_cons_zero]
    refine held_take 2 26 _ (.pointer (some ⟨G, 0, none⟩)) rfl rfl (by kernel_rfl) (by kernel_rfl) (by kernel_rfl) rfl hS5 (fun _ _ => rfl) ?_
    simp only [Act.put, List.setIfInBounds_toArray, List.set_cons_succ, List.set_cons_zero]
    refine held_take 3 27 _ (.pointer (some ⟨G, 0, none⟩)) rfl rfl (by kernel_rfl) (by kernel_rfl) (by kernel_rfl) rfl hS5 (fun _ _ => rfl) ?_
    simp only [Act.put, List.setIfInBounds_toArray, List.set_cons_succ, List.set_cons_zero]
    refine held_take 4 28 _ (.pointer (some ⟨G, 1, none⟩)) rfl rfl (by kernel_rfl) (by kernel_rfl) (by kernel_rfl) rfl hS5 (fun _ _ => rfl) ?_
    simp only [Act.put, List.setIfInBounds_toArray, List.set_cons_succ, List.set_cons_zero]
    refine held_take 5 29 _ (.int .i64 (sizeS s : Int)) rfl rfl (by kernel_rfl) (by kernel_rfl) (by kernel_rfl) rfl hS5 (fun V hV => exec_loadc 3 _ rfl _ _ rfl (load_one 3 (fun _ => by kernel_rfl) V _ _ _ hV.2.1)) ?_
    simp only [Act.put, List.setIfInBounds_toArray, List.set_cons_succ, List.set_cons_zero]
    refine held_take 6 30 _ (.bool false) rfl rfl (by kernel_rfl) (by kernel_rfl) (by kernel_rfl) rfl hS5 (fun V _ => exec_gtr7 _ _ _ rfl _ _ _ rfl rfl H5) ?_
    simp only [Act.put, List.setIfInBounds_toArray, List.set_cons_succ, List.set_cons_zero]
    refine held_take 7 31 _ (.bool false) rfl rfl (by kernel_rfl) (by kernel_rfl) (by kernel_rfl) rfl hS5 (fun _ _ => rfl) ?_
    simp only [Act.put, List.setIfInBounds_toArray, List.set_cons_succ, List.set_cons_zero]
    refine held_take 8 32 _ (headV (l.n + 1) (l.gen + 1) SB.length) rfl rfl (by kernel_rfl) (by kernel_rfl) (by kernel_rfl) rfl hS5 (fun V hV => exec_load 93 _ rfl gb 0 rfl [.int .i64 ((l.n + 1 : Nat) : Int), .int .i64 ((l.gen + 1 : Nat) : Int), .int .i64 (SB.length : Int)] _ hV.2.2 Tryz.underlying93 rfl Tryz.info93s) ?_
    simp only [Act.put, List.setIfInBounds_toArray, List.set_cons_succ, List.set_cons_zero]
    refine held_all1 9 (by kernel_rfl) (op_call 9 33 _ 54 #[headV (l.n + 1) (l.gen + 1) SB.length] rfl rfl rfl (exec_one 54 _ _ rfl _ rfl Tryz.call54) (HIN.out.mono ?_))
    rintro e W7 ⟨rfl, hB7⟩
    have hS7 := HS7.out W7 hB7
    refine ⟨_, rfl, hS7, ?_⟩
    simp only [Act.put, List.setIfInBounds_toArray, List.set_cons_succ, List.set_cons_zero]
    refine held_take 10 34 _ (.bool false) rfl rfl (by kernel_rfl) (by kernel_rfl) (by kernel_rfl) rfl hS7 (fun _ _ => rfl) ?_
    simp only [Act.put, List.setIfInBounds_toArray, List.set_cons_succ, List.set_cons_zero]
    refine held_take 11 35 _ (.bool false) rfl rfl (by kernel_rfl) (by kernel_rfl) (by kernel_rfl) rfl hS7 (fun _ _ => rfl) ?_
    simp only [Act.put, List.setIfInBounds_toArray, List.set_cons_succ, List.set_cons_zero]
    refine wpAnyH_done (by kernel_rfl) ?_ _
    refine NoPanic.normal ?_
    have hB8 : Below w.heap.size w W7 := hB5.trans (hB7.mono hB5.size)
    have hbD : Below w.heap.size w W7.drew := hB8.drew
    have hkD : Blk W7.drew gb 93 #[.int .i64 ((l.n + 1 : Nat) : Int), .int .i64 ((l.gen + 1 : Nat) : Int), .int .i64 (SB.length : Int)] := Blk.drew (Blk.below (w := W4.drew) hkb hB7 (Blk.lt hkb))
    have hT0 := hT _ hkD
    obtain ⟨Y, hY⟩ : ∃ Y, Y = writeW s l.n (l.gen + 1) 0 SB := ⟨_, rfl⟩
    have hYs := writeW_steps s l.n (l.gen + 1) 0 (SB.length + 1) SB (by omega)
    rw [Nat.zero_div] at hYs
    have hCDl : ∀ q, CD q → q < w.heap.size := fun q hq => h.lt q (h2 q hq)
    have HST : Hid (∀ W8 v, Own W8 W7.drew.heap.size v SB → Below W7.drew.heap.size W7.drew W8 → Calls Tryz.prog 55 #[.pointer (some ⟨G, 0, none⟩), headV (l.n + 1) (l.gen + 1) SB.length, .int .i64 0, v] W8 fun e w' => e = .returned (.int .i64 Y.1) ∧ SettleEnd W8 w' G L CD (sizeS s) l.n l.gen len bg (.slice ta tb.length tc) (l.n + 1) (l.gen + 1) SB Y) := fun W8 v hv hW => by
      rw [hY, hYs]
      have hh : sizeS s / 128 = halfS s := by unfold sizeS; omega
      rw [← hh]
      have hW8 : Below w.heap.size w W8 := hbD.trans (hW.mono hbD.size)
      refine settle_any (l.n + 1) (l.gen + 1) 0 _ (HLB.out W8 hW8) (h1.after hW8) h6 SB (by omega) ⟨by rw [Nat.zero_mul, List.drop_zero]; exact hv.seg, fun _ q hq e => ?_⟩ (fun _ q hq e => ?_) (by omega) (by omega) (by omega) (SB.length + 1) (by omega) (by omega) (by omega)
      · have := hv.blocks q hq
        have := hCDl q e
        have := hbD.size
        omega
      · have := hv.blocks q hq
        have := hbD.size
        omega
    have HNW : Hid (Y.2.now.length = s.now.length) := by
      show _ = _
      rw [hY, hYs]
      exact contW_now _ _ _ _ _ _ _ _ _ _
    rw [← hY] at hR
    have HT9 : Hid (∀ W8 W9, Below W7.drew.heap.size W7.drew W8 → SettleEnd W8 W9 G L CD (sizeS s) l.n l.gen len bg (.slice ta tb.length tc) (l.n + 1) (l.gen + 1) SB Y → W9.rangeAt gb 0 [.int .i64 ((l.n + 1 : Nat) : Int), .int .i64 ((l.gen + 1 : Nat) : Int), .int .i64 (SB.length : Int)]) := fun W8 W9 hW hse => by
      obtain ⟨CD', k1, k2, k3, k4, k5⟩ := hse
      refine hT _ (Blk.chg (Blk.below hkD hW (Blk.lt hkD)) k4 ?_)
      rintro (e | e)
      · have := hCDl _ e
        omega
      · omega
    have HC5 : Hid (∀ W8 W9, SettleEnd W8 W9 G L CD (sizeS s) l.n l.gen len bg (.slice ta tb.length tc) (l.n + 1) (l.gen + 1) SB Y → ∃ n' g' len' bk tv', LogB W9 G L.g (sizeS s) n' g' len' bg bk tv') := fun W8 W9 hse => by
      obtain ⟨CD', k1, k2, k3, k4, k5⟩ := hse
      rcases k5 with ⟨_, k⟩ | ⟨_, tv', k, _⟩
      · exact ⟨_, _, _, _, _, k⟩
      · exact ⟨_, _, _, _, _, k⟩
    have HFIN : Hid (∀ W8 W9, Below W7.drew.heap.size W7.drew W8 → SettleEnd W8 W9 G L CD (sizeS s) l.n l.gen len bg (.slice ta tb.length tc) (l.n + 1) (l.gen + 1) SB Y → R.1 = Y.1 ∧ PB (W9.setCell ⟨G, 5, none⟩ (.bool (Y.1 == 0))) G L (Fr C w (W9.setCell ⟨G, 5, none⟩ (.bool (Y.1 == 0)))) R.2.1 R.2.2 ∧ Chg C w (W9.setCell ⟨G, 5, none⟩ (.bool (Y.1 == 0)))) := fun W8 W9 hW hse => by
      have hW8 : Below w.heap.size w W8 := hbD.trans (hW.mono hbD.size)
      obtain ⟨hc, hh⟩ := settle_pb (C := C) (fun q hq => Nat.lt_of_lt_of_le (h.lt q hq) hW8.size) h2 h5 h6 h7 HNW.out hse
      obtain ⟨_, _, _, _, k4, _⟩ := hse
      have hcG : Chg (fun q => q = G) W9 (W9.setCell ⟨G, 5, none⟩ (.bool (Y.1 == 0))) := (Chg.refl (fun q => q = G) W9).setCell G 5 _ (fun _ => rfl)
      have hsz9 := hcG.size
      have hcw : Chg C w (W9.setCell ⟨G, 5, none⟩ (.bool (Y.1 == 0))) := ((Chg.of_below hW8 (Nat.le_refl _)).trans hc (fun _ _ => id)).trans hcG (fun q _ e => by rw [e]; exact h5)
      have hFr : ∀ q, Fr C W8 W9 q → Fr C w (W9.setCell ⟨G, 5, none⟩ (.bool (Y.1 == 0))) q := fun q hq => hq.imp_right fun e => ⟨Nat.le_trans hW8.size e.1, Nat.lt_of_lt_of_le e.2 hsz9⟩
      have hlt8 := fr_lt h.lt hcw.size
      have h4' : Own (W9.setCell ⟨G, 5, none⟩ (.bool (Y.1 == 0))) 0 (.slice ta tb.length tc) tb := ((h4.below hW8 (Nat.le_refl _)).chg k4 (fun q hq e => by
          rcases e with e | e
          · exact (h7 q hq).2 e
          · exact HGT.out q hq e)).chg hcG (fun q hq e => HGT.out q hq e)
      rcases hh with ⟨e0, CD', k1, k2, k3, k5, k6⟩ | ⟨e0, CD', tv', k1, k2, k3, k5, k6, k7⟩
      · rw [if_pos e0] at hR
        rw [hR]
        exact ⟨rfl, ⟨⟨CD', len, _, _, tb, k1.chg hcG (fun q hq e => k3 (e ▸ hq)), fun q hq => hFr q (k2 q hq), (Blk.set k6 5 _).of_eq rfl, h4', .inl h5, k3, fun q hq => ⟨hFr q (k5 q hq).1, (k5 q hq).2⟩, h8, h9, fun e => by cases e⟩, hlt8, h.n, h.gen, h.b, h.sure, h.one⟩, hcw⟩
      · rw [if_neg (by rw [e0]; simp)] at hR
        rw [hR]
        have hTG : ∀ q, tv'.ownBlock = some q → q ≠ G := fun q hq e => by
          obtain ⟨c', f', hcf⟩ := own_cells k7 hq
          rw [e, show _ = _ from k6] at hcf
          cases hcf
        rw [e0] at hcw hlt8 hFr hcG ⊢
        refine ⟨rfl, ⟨⟨CD', SB.length, true, tv', _, k1.chg hcG (fun q hq e => k3 (e ▸ hq)), fun q hq => hFr q (k2 q hq), (Blk.set k6 5 _).of_eq rfl, k7.chg hcG (fun q hq e => hTG q hq e), .inl h5, k3, fun q hq => ⟨hFr q (k5 q hq).1, (k5 q hq).2⟩, by omega, by rw [List.length_drop]; omega, fun _ => ⟨rfl, fun _ => ⟨rfl, rfl⟩⟩⟩, hlt8, ?_, ?_, ?_, Nat.le_refl _, fun _ => Nat.succ_le_succ (Nat.zero_le _)⟩, hcw⟩
        · show l.n + 1 ≤ _
          omega
        · show l.gen + 1 ≤ _
          omega
        · show SB.length ≤ _
          omega
    clear hR hYs hY
    go_wp2_with fail
    refine held_begin (fun V => V.rangeAt gb 0 [.int .i64 ((l.n + 1 : Nat) : Int), .int .i64 ((l.gen + 1 : Nat) : Int), .int .i64 (SB.length : Int)]) (by kernel_rfl) ?_
    refine held_take 0 36 _ (.pointer (some ⟨G, 0, none⟩)) rfl rfl (by kernel_rfl) (by kernel_rfl) (by kernel_rfl) rfl hT0 (fun _ _ => rfl) ?_
    simp only [Act.put, List.setIfInBounds_toArray, List.set_cons_succ, List.set_cons_zero]
    refine held_take 1 37 _ (headV (l.n + 1) (l.gen + 1) SB.length) rfl rfl (by kernel_rfl) (by kernel_rfl) (by kernel_rfl) rfl hT0 (fun V hV => exec_load 93 _ rfl gb 0 rfl [.int .i64 ((l.n + 1 : Nat) : Int), .int .i64 ((l.gen + 1 : Nat) : Int), .int .i64 (SB.length : Int)] _ hV Tryz.underlying93 rfl Tryz.info93s) ?_
    simp only [Act.put, List.setIfInBounds_toArray, List.set_cons_succ, List.set_cons_zero]
    refine held_take 2 38 _ (.slice ax st.length cx) rfl rfl (by kernel_rfl) (by kernel_rfl) (by kernel_rfl) rfl hT0 (fun _ _ => rfl) ?_
    simp only [Act.put, List.setIfInBounds_toArray, List.set_cons_succ, List.set_cons_zero]
    refine held_all1 3 (by kernel_rfl) (op_call 3 39 _ 56 #[.slice ax st.length cx] rfl rfl rfl (exec_one 56 _ _ rfl _ rfl Tryz.call56) ((HSP.out W7.drew hbD).mono ?_))
    rintro e W8 ⟨v, rfl, hOv, hB9⟩
    have hS8 := hT _ (Blk.below hkD hB9 (Blk.lt hkD))
    refine ⟨_, rfl, hS8, ?_⟩
    simp only [Act.put, List.setIfInBounds_toArray, List.set_cons_succ, List.set_cons_zero]
    refine held_all1 4 (by kernel_rfl) (op_call 4 40 _ 55 #[.pointer (some ⟨G, 0, none⟩), headV (l.n + 1) (l.gen + 1) SB.length, .int .i64 0, v] rfl rfl rfl (exec_four8 55 _ _ _ _ _ rfl _ _ _ _ rfl rfl rfl rfl Tryz.call55) ((HST.out W8 v hOv hB9).mono ?_))
    rintro e W9 ⟨rfl, hse⟩
    have hS9 := HT9.out W8 W9 hB9 hse
    refine ⟨_, rfl, hS9, ?_⟩
    simp only [Act.put, List.setIfInBounds_toArray, List.set_cons_succ, List.set_cons_zero]
    refine held_all1 5 (by kernel_rfl) (op_value 5 6 _ (.int .i64 Y.1) W9 rfl rfl rfl (rfl) ⟨hS9, ?_⟩)
    simp only [Act.put, List.setIfInBounds_toArray, List.set_cons_succ, List.set_cons_zero]
    refine wpAnyH_done (by kernel_rfl) ?_ _
    refine NoPanic.normal ?_
    obtain ⟨n', g', len', bk', tv', hL9⟩ := HC5.out W8 W9 hse
    have hc5 : W9.cell? ⟨G, 5, none⟩ = some (.bool bg) := Blk.cell (j := 5) hL9 rfl
    have f5 := Blk.frozen hL9 5
    obtain ⟨f1, f2, f3⟩ := HFIN.out W8 W9 hB9 hse
    clear hL9
    go_wp2_with fail
    go_ret
    rw [f1]
    exact ⟨rfl, f2, f3⟩
end Go.Proofs.YtbegphfideopoaaGreat
namespace Go.Proofs.YtbegphfideopoaaGreat
open Go.RowKit

def DiskAt (B : Nat) (w : World) (L : PLay) (s : DS) : Prop := ∃ C, OD w L C s ∧ (∀ q, C q → B ≤ q) ∧ B ≤ w.heap.size
def LogAt (B : Nat) (w : World) (G : Nat) (L : PLay) (s : DS) (l : LS) : Prop := ∃ C, PB w G L C s l ∧ (∀ q, C q → B ≤ q) ∧ B ≤ w.heap.size
theorem blift {B C : Nat} {w w1 w2 : World} (h1 : Below B w w1) (h2 : Below C w1 w2) (h : B ≤ C) : Below B w w2 := h1.trans (h2.mono h)
theorem fr_ge {C : Nat → Prop} {B : Nat} {w w' : World} (h : ∀ q, C q → B ≤ q) (hB : B ≤ w.heap.size) (q : Nat) (hq : Fr C w w' q) : B ≤ q := by
  rcases hq with e | e
  · exact h q e
  · exact Nat.le_trans hB e.1
theorem LogAt.disk {B : Nat} {w : World} {G : Nat} {L : PLay} {s : DS} {l : LS} (h : LogAt B w G L s l) : DiskAt B w L s := by
  obtain ⟨C, h1, h2, h3⟩ := h
  obtain ⟨CD, k1, k2⟩ := h1.disk
  exact ⟨CD, k1, fun q hq => h2 q (k2 q hq), h3⟩
theorem LogAt.after {B : Nat} {w w' : World} {G : Nat} {L : PLay} {s : DS} {l : LS} (h : LogAt B w G L s l) (hb : Below w.heap.size w w') : LogAt B w' G L s l := by
  obtain ⟨C, h1, h2, h3⟩ := h
  exact ⟨C, h1.after hb, h2, Nat.le_trans h3 hb.size⟩
theorem LogAt.le {B : Nat} {w : World} {G : Nat} {L : PLay} {s : DS} {l : LS} (h : LogAt B w G L s l) : B ≤ w.heap.size := h.choose_spec.2.2
theorem LogAt.okS {B : Nat} {w : World} {G : Nat} {L : PLay} {s : DS} {l : LS} (h : LogAt B w G L s l) : s.ok L.n ∧ L.n ≤ 4096 := by
  obtain ⟨C, h1, -⟩ := h.disk
  exact ⟨h1.d.ok, h1.d.lay.max⟩
theorem DiskAt.after {B : Nat} {w w' : World} {L : PLay} {s : DS} (h : DiskAt B w L s) (hb : Below w.heap.size w w') : DiskAt B w' L s := by
  obtain ⟨C, h1, h2, h3⟩ := h
  exact ⟨C, h1.after hb, h2, Nat.le_trans h3 hb.size⟩
theorem at_new (B n : Nat) (w : World) (h1 : 1 ≤ n) (h2 : n ≤ 4096) (hB : B ≤ w.heap.size) :
    Calls Tryz.prog 11 #[.int .i64 (n : Int)] w fun e w' => ∃ L : PLay, e = .returned (.tuple #[.pointer (some ⟨L.g, 0, none⟩), .int .i64 0]) ∧ DiskAt B w' L (newS n) ∧ Below w.heap.size w w' ∧ L.n = n :=
  (od_new n w h1 h2).mono fun _ _ ⟨L, e, hD, hb, hT, hn⟩ => ⟨L, e, ⟨L.T, hD, fun q hq => Nat.le_trans hB (hT q hq), Nat.le_trans hB hb.size⟩, hb, hn⟩
theorem at_open {B : Nat} {w : World} {L : PLay} {s : DS} (h : DiskAt B w L s) (he : openE s = 0) :
    Calls Tryz.prog 27 #[.pointer (some ⟨L.g, 0, none⟩)] w fun e w' => ∃ G sv rv vs, e = .returned (.tuple #[.pointer (some ⟨G, 0, none⟩), sv, rv, .int .i64 0]) ∧ LogAt B w' G L s (openL s) ∧ Own w' w.heap.size sv (foundS s).1 ∧ Gat w' w.heap.size rv vs (foundS s).2 ∧ Below w.heap.size w w' := by
  obtain ⟨C, h1, h2, h3⟩ := h
  refine (open_any L C s w h1 he).mono ?_
  rintro e w' ⟨G, sv, rv, vs, rfl, hP, hG, hO, hA, hb⟩
  refine ⟨G, sv, rv, vs, rfl, ⟨_, hP, fun q hq => ?_, Nat.le_trans h3 hb.size⟩, hO, hA, hb⟩
  rcases hq with e | rfl
  · exact h2 q e
  · exact Nat.le_trans h3 hG
theorem at_check {B : Nat} {w : World} {G : Nat} {L : PLay} {s : DS} {l : LS} (h : LogAt B w G L s l) (x : Value) (st : List UInt8) (hS : Seg w x st) (hm : st.length ≤ 1000000) :
    Calls Tryz.prog 29 #[.pointer (some ⟨G, 0, none⟩), x] w fun e w' => e = .returned (.int .i64 (checkW s l st).1) ∧ LogAt B w' G L (checkW s l st).2.1 (checkW s l st).2.2 ∧ Below B w w' := by
  obtain ⟨C, h1, h2, h3⟩ := h
  refine (pb_check h1 x st hS hm).mono ?_
  rintro e w' ⟨rfl, hP, hc⟩
  exact ⟨rfl, ⟨_, hP, fr_ge h2 h3, Nat.le_trans h3 hc.size⟩, hc.below h2 h3⟩
theorem at_append {B : Nat} {w : World} {G : Nat} {L : PLay} {s : DS} {l : LS} (h : LogAt B w G L s l) (x : Value) (bs : List UInt8) (hS : Seg w x bs) (hm : bs.length ≤ 1000000) (hx : 0 < bs.length → ∀ q, x.ownBlock = some q → q < B) :
    Calls Tryz.prog 69 #[.pointer (some ⟨G, 0, none⟩), x] w fun e w' => e = .returned (.int .i64 (appendW s l bs).1) ∧ LogAt B w' G L s (appendW s l bs).2 ∧ Below B w w' := by
  obtain ⟨C, h1, h2, h3⟩ := h
  refine (pb_append h1 x bs hS hm (fun h0 q hq e => by have := hx h0 q hq; have := h2 q e; omega)).mono ?_
  rintro e w' ⟨rfl, hP, hc⟩
  exact ⟨rfl, ⟨_, hP, fr_ge h2 h3, Nat.le_trans h3 hc.size⟩, hc.below h2 h3⟩
theorem at_commit {B : Nat} {w : World} {G : Nat} {L : PLay} {s : DS} {l : LS} (h : LogAt B w G L s l) :
    Calls Tryz.prog 70 #[.pointer (some ⟨G, 0, none⟩)] w fun e w' => e = .returned (.int .i64 (commitW s l).1) ∧ LogAt B w' G L (commitW s l).2.1 (commitW s l).2.2 ∧ Below B w w' := by
  obtain ⟨C, h1, h2, h3⟩ := h
  refine (pb_commit h1).mono ?_
  rintro e w' ⟨rfl, hP, hc⟩
  exact ⟨rfl, ⟨_, hP, fr_ge h2 h3, Nat.le_trans h3 hc.size⟩, hc.below h2 h3⟩
theorem at_room {B : Nat} {w : World} {G : Nat} {L : PLay} {s : DS} {l : LS} (h : LogAt B w G L s l) :
    Calls Tryz.prog 68 #[.pointer (some ⟨G, 0, none⟩)] w fun e w' => e = .returned (.int .i64 (roomW s l)) ∧ Below w.heap.size w w' := by
  obtain ⟨C, h1, -⟩ := h
  exact pb_room h1
theorem at_size {B : Nat} {w : World} {G : Nat} {L : PLay} {s : DS} {l : LS} (h : LogAt B w G L s l) :
    Calls Tryz.prog 44 #[.pointer (some ⟨G, 0, none⟩)] w fun e w' => e = .returned (.int .i64 (sizeS s : Int)) ∧ w' = w := by
  obtain ⟨C, h1, -⟩ := h
  exact pb_size h1

theorem one_seg (w : World) (b : UInt8) : Seg (w.alloc (.cells #[v8 b] 5)) (.slice (some ⟨w.heap.size, 0, none⟩) 1 1) [b] :=
  Seg.of_row (Blk.row (Blk.new w 5 _)) rfl (Nat.le_refl _) (by simp)


end Go.Proofs.YtbegphfideopoaaGreat
namespace Go.Proofs.YtbegphfideopoaaGreat
open Go.RowKit

/-- Rows of bytes: a slice of slices that came in. -/
def Segs7 (w : World) (v : Value) (L : List (List UInt8)) : Prop :=
  ∃ ao c, v = .slice ao L.length c ∧ L.length ≤ maxLen ∧ (0 < L.length → ∃ b off, ao = some ⟨b, off, none⟩ ∧ b < w.heap.size ∧ L.length ≤ c ∧ ∀ i r, L[i]? = some r → ∃ a n cc, w.cell? ⟨b, off + i, none⟩ = some (.slice a n cc) ∧ r.length = n ∧ n ≤ maxLen ∧ Seg w (.slice a n cc) r)
theorem Seg.own_lt {w : World} {v : Value} {bs : List UInt8} (h : Seg w v bs) (h0 : 0 < bs.length) (q : Nat) (hq : v.ownBlock = some q) : q < w.heap.size := by
  obtain ⟨ao, c, rfl⟩ := h.shapeD
  obtain ⟨b, off, rfl, _, _, hl⟩ := h.formD h0
  cases hq
  exact hl
/-- A row of them, in every world that keeps what there was. -/
theorem Segs7.at {w : World} {ao : Option Addr} {n c : Nat} {L : List (List UInt8)} (h : Segs7 w (.slice ao n c) L) {I : Nat} (hI : I < L.length) : ∃ b off a cc, ao = some ⟨b, off, none⟩ ∧ L.length ≤ c ∧ (L.getD I []).length ≤ maxLen ∧
    (∀ W : World, Below w.heap.size w W → W.cell? ⟨b, off + I, none⟩ = some (.slice a (L.getD I []).length cc) ∧ Seg W (.slice a (L.getD I []).length cc) (L.getD I [])) ∧ (0 < (L.getD I []).length → ∀ q, (Value.slice a (L.getD I []).length cc).ownBlock = some q → q < w.heap.size) := by
  obtain ⟨ao', c', e, hm, hr⟩ := h
  cases e
  obtain ⟨b, off, rfl, hb, hc, hcell⟩ := hr (by omega)
  have hg : L[I]? = some (L.getD I []) := by simp [hI]
  obtain ⟨a, n', cc, h1, h2, h3, h4⟩ := hcell I _ hg
  subst h2
  exact ⟨b, off, a, cc, rfl, hc, h3, fun W hW => ⟨((bcell hW).1 b (off + I) hb).trans h1, h4.below hW (Nat.le_refl _)⟩, fun h0 q hq => h4.own_lt h0 q hq⟩
theorem index_rows (b off len c : Nat) (z : Int) (I : Nat) (hz : z = (I : Int)) (h : I < len) (w : World) : (Instr.indexAt 67 (.slice (some ⟨b, off, none⟩) len c) (.int .i64 z)).run Tryz.prog w = .ok (.pointer (some ⟨b, off + I, none⟩)) w := by
  subst hz
  have hi : (0 : Int) ≤ (I : Int) ∧ (I : Int) < (len : Int) := by omega
  simp [Instr.indexAt, asIntOf, run_underlying Tryz.underlying67, hi, Addr.add_mid]
  intro h'
  omega
theorem room_none (s : DS) : roomW s ⟨0, 0, [], 0, false, false⟩ = 0 := rfl
end Go.Proofs.YtbegphfideopoaaGreat
namespace Go.Proofs.YtbegphfideopoaaGreat
open Go.RowKit

theorem open_stand {s : DS} {n0 : Nat} {l : LS} (h : Stand s n0 l) (h256 : 256 ≤ sizeS s) : openE s = 0 := by
  unfold openE
  rw [if_neg (by omega), h.calm.2]
  rfl
theorem openL_stand {s : DS} {n0 : Nat} {l : LS} (h : Stand s n0 l) : openL s = ⟨l.n, l.gen, [], 0, false, false⟩ := by
  unfold openL
  rw [h.there]
theorem check_full {s : DS} {l : LS} {st : List UInt8} (hbr : l.broke = false) (hf : sizeS s < (stateB st).length) : checkW s l st = (3, s, l) := by
  unfold checkW
  rw [hbr, if_neg (by decide), if_pos (.inl hf)]
theorem append_arg {s : DS} {n0 : Nat} {l : LS} (h : Stand s n0 l) (x : List UInt8) (hx : 4096 < x.length) : appendW s l x = (1, l) := by
  unfold appendW
  rw [h.broke, if_neg (by decide), h.begun, if_neg (by decide), if_pos hx]
theorem told_state (st : List UInt8) : toldB (stateB st) = (st, []) := by
  have := told_put st [] (fun x hx => by cases hx)
  rwa [show recsB [] = [] from rfl, List.append_nil] at this
theorem told_one (st x : List UInt8) (h : x.length ≤ 4096) : toldB (stateB st ++ pieceB 3 x) = (st, [x]) := by
  have := told_put st [x] (fun y hy => by rw [List.mem_singleton.1 hy]; exact h)
  rwa [show recsB [x] = pieceB 3 x from List.append_nil _] at this
end Go.Proofs.YtbegphfideopoaaGreat
