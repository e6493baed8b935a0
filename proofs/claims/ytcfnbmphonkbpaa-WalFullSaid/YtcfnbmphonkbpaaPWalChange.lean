/-
  What is proved here: the program's log: a change's steps, up to the first error, which breaks the log.
  Conditions: the disk and the log lie in memory.
-/
import Derived.Test.YtcfnbmphonkbpaaPWalSteps
namespace Go.Proofs.Ytcfnbmphonkbpaa
open Go.RowKit

/-- The four steps of a change. -/
def stepF (first N g M I F : Nat) (b : List UInt8) (k : Nat) (t : DS) : Int × DS :=
  if k = 0 then rowsW first b F I t else if k = 2 then writeS t ((N % 2 : Nat) : Int) (headB N g M) else syncS t
/-- What comes of the steps from the k-th on. -/
def contW (first N g M I F : Nat) (b : List UInt8) : Nat → Nat → DS → Int × DS
  | 0, _, t => (0, t)
  | n + 1, k, t => if (stepF first N g M I F b k t).1 ≠ 0 then stepF first N g M I F b k t else contW first N g M I F b n (k + 1) (stepF first N g M I F b k t).2
theorem pair_zero (x : Int × DS) : (if x.1 ≠ 0 then x else (0, x.2)) = x := by
  obtain ⟨a, b⟩ := x
  by_cases h : a = 0
  · subst h; rfl
  · rw [if_pos h]
theorem writeW_steps (s : DS) (n gen frm F : Nat) (b : List UInt8) (hF : b.length ≤ (frm / 128 + F) * 128) : writeW s n gen frm b = contW (2 + gen % 2 * halfS s) (n + 1) gen b.length (frm / 128) F b 4 0 s := by
  unfold writeW sealW
  rw [rowsW_more _ b (b.length + 1) F (frm / 128) s (by omega) hF]
  have e : ∀ t, contW (2 + gen % 2 * halfS s) (n + 1) gen b.length (frm / 128) F b 1 3 t = syncS t := fun t => pair_zero (syncS t)
  show _ = if (rowsW (2 + gen % 2 * halfS s) b F (frm / 128) s).1 ≠ 0 then _ else if (syncS (rowsW (2 + gen % 2 * halfS s) b F (frm / 128) s).2).1 ≠ 0 then _ else if (writeS (syncS (rowsW (2 + gen % 2 * halfS s) b F (frm / 128) s).2).2 (((n + 1) % 2 : Nat) : Int) (headB (n + 1) gen b.length)).1 ≠ 0 then _ else contW (2 + gen % 2 * halfS s) (n + 1) gen b.length (frm / 128) F b 1 3 _
  rw [e]
  rfl
/-- The steps as values. -/
def stepV (bl bn bi bb g : Nat) (k : Nat) : Value :=
  if k = 0 then .func (.func 45) #[] #[.pointer (some ⟨bl, 0, none⟩), .pointer (some ⟨bn, 0, none⟩), .pointer (some ⟨bi, 0, none⟩), .pointer (some ⟨bb, 0, none⟩)]
  else if k = 2 then .func (.func 48) #[] #[.pointer (some ⟨bl, 0, none⟩), .pointer (some ⟨bn, 0, none⟩)]
  else .func (.func 53) #[.pointer (some ⟨g, 0, none⟩)] #[]
set_option maxRecDepth 100000 in
set_option maxHeartbeats 4000000 in
theorem change_any {w : World} {G size n gen len : Nat} {bg : Bool} {tv : Value} {L : PLay} {CD : Nat → Prop} {s : DS} {bl bn bi bb N g M I gs : Nat} {x : Value} (h : LogB w G L.g size n gen len bg false tv) (hD : OD w L CD s) (hG : ¬ CD G) (hX : Boxes w CD bl bn bi bb G N g M I x) (b : List UInt8) (hb : b.length ≤ 1000000) (hx : SegA w CD x (b.drop (I * 128))) (hsz : size ≤ 262016) (hI : I ≤ 5000) (F : Nat) (hF : b.length ≤ (I + F) * 128) (hN : N < 4294967296) (hg : g < 4294967296) (hM : M < 4294967296)
    (tt : TypeId) (hgs : Blk w gs tt #[stepV bl bn bi bb L.g 0, stepV bl bn bi bb L.g 1, stepV bl bn bi bb L.g 2, stepV bl bn bi bb L.g 3]) (ogs : ¬ CD gs) :
    Calls Try.prog 52 #[.pointer (some ⟨G, 0, none⟩), .slice (some ⟨gs, 0, none⟩) 4 4] w fun e w' => e = .returned (.int .i64 (contW (2 + g % 2 * (size / 128)) N g M I F b 4 0 s).1) ∧ OD w' L (Fr CD w w') (contW (2 + g % 2 * (size / 128)) N g M I F b 4 0 s).2 ∧ LogB w' G L.g size n gen len bg (decide ((contW (2 + g % 2 * (size / 128)) N g M I F b 4 0 s).1 ≠ 0)) tv ∧ Chg (fun q => CD q ∨ q = G) w w' := by
  have hGl : G < w.heap.size := Blk.lt h
  have hlt := hD.lt
  obtain ⟨R, hR⟩ : ∃ R, R = contW (2 + g % 2 * (size / 128)) N g M I F b 4 0 s := ⟨_, rfl⟩
  rw [← hR]
  have hOD0 : OD w L (Fr CD w w) s := hD.mono (fun q hq => .inl hq) (fun q hq => by rcases hq with hq | hq; exact hD.lt q hq; omega)
  have key : ∀ {q : Nat} {w' : World}, ¬ CD q → q < w.heap.size → ¬ Fr CD w w' q := fun hq hl e => by rcases e with e | e; exact hq e; omega
  have HK : Hid (∀ (k : Nat) (W : World) (t : DS), Chg CD w W → OD W L (Fr CD w W) t → (k = 0 → Calls Try.prog 45 #[.pointer (some ⟨bl, 0, none⟩), .pointer (some ⟨bn, 0, none⟩), .pointer (some ⟨bi, 0, none⟩), .pointer (some ⟨bb, 0, none⟩)] W fun e w' => e = .returned (.int .i64 (stepF (2 + g % 2 * (size / 128)) N g M I F b k t).1) ∧ OD w' L (Fr CD w w') (stepF (2 + g % 2 * (size / 128)) N g M I F b k t).2 ∧ Chg CD w w') ∧
      (k = 2 → Calls Try.prog 48 #[.pointer (some ⟨bl, 0, none⟩), .pointer (some ⟨bn, 0, none⟩)] W fun e w' => e = .returned (.int .i64 (stepF (2 + g % 2 * (size / 128)) N g M I F b k t).1) ∧ OD w' L (Fr CD w w') (stepF (2 + g % 2 * (size / 128)) N g M I F b k t).2 ∧ Chg CD w w') ∧
      (k = 1 ∨ k = 3 → Calls Try.prog 53 #[.pointer (some ⟨L.g, 0, none⟩)] W fun e w' => e = .returned (.int .i64 (stepF (2 + g % 2 * (size / 128)) N g M I F b k t).1) ∧ OD w' L (Fr CD w w') (stepF (2 + g % 2 * (size / 128)) N g M I F b k t).2 ∧ Chg CD w w')) := fun k W t hW hO => by
    have hLB := Blk.chg h hW hG
    have hX' : Boxes W (Fr CD w W) bl bn bi bb G N g M I x := hX.fr hW
    have hG' : ¬ Fr CD w W G := key hG hGl
    have hx' : SegA W (Fr CD w W) x (b.drop (I * 128)) := ⟨hx.1.chg hW hx.2, fun h0 q hq e => by
      rcases e with e | e
      · exact hx.2 h0 q hq e
      · have : q < w.heap.size := by
          rcases hx.1 with ⟨e0, _⟩ | ⟨b', off', c', e0, _, _, hb'⟩
          · rw [e0] at h0; cases h0
          · rw [e0] at hq
            obtain rfl : b' = q := Option.some.inj hq
            exact hb'
        omega⟩
    refine ⟨fun hk => ?_, fun hk => ?_, fun hk => ?_⟩
    · subst hk
      exact (settle1_any hLB hO hG' hX' b hb hx' hsz hI F hF).mono fun e w' ⟨h1, h2, h3⟩ => ⟨h1, OD.fr h2 hW.size h3.size hlt, hW.fr h3⟩
    · subst hk
      exact (settle2_any hLB hO hG' hX' hN hg hM).mono fun e w' ⟨h1, h2, h3⟩ => ⟨h1, OD.fr h2 hW.size h3.size hlt, hW.fr h3⟩
    · have e : stepF (2 + g % 2 * (size / 128)) N g M I F b k t = syncS t := by rcases hk with rfl | rfl <;> rfl
      rw [e]
      exact (od_sync L (Fr CD w W) t W hO).mono fun e w' ⟨h1, h2, h3⟩ => ⟨h1, OD.fr h2 hW.size h3.size hlt, hW.fr h3⟩
  have HLB : Hid (∀ W : World, Chg CD w W → LogB W G L.g size n gen len bg false tv) := fun W hW => Blk.chg h hW hG
  have HGS : Hid (∀ W : World, Chg CD w W → Blk W gs tt #[stepV bl bn bi bb L.g 0, stepV bl bn bi bb L.g 1, stepV bl bn bi bb L.g 2, stepV bl bn bi bb L.g 3]) := fun W hW => hgs.chg hW ogs
  have HST : Hid (∀ (n' k : Nat) (t : DS), contW (2 + g % 2 * (size / 128)) N g M I F b (n' + 1) k t = if (stepF (2 + g % 2 * (size / 128)) N g M I F b k t).1 ≠ 0 then stepF (2 + g % 2 * (size / 128)) N g M I F b k t else contW (2 + g % 2 * (size / 128)) N g M I F b n' (k + 1) (stepF (2 + g % 2 * (size / 128)) N g M I F b k t).2) := fun _ _ _ => rfl
  have HEN : Hid (∀ (k : Nat) (t : DS), contW (2 + g % 2 * (size / 128)) N g M I F b 0 k t = (0, t)) := fun _ _ => rfl
  have HR0 : Hid (R = contW (2 + g % 2 * (size / 128)) N g M I F b 4 0 s) := hR
  clear h hD hX hx hR hgs hF hI hb hN hg hM
  generalize contW (2 + g % 2 * (size / 128)) N g M I F b = CW at *
  generalize stepF (2 + g % 2 * (size / 128)) N g M I F b = SF at *
  go_enter Try.func52, Try.ntmps52
  go_wp2_with fail
  go_loopw [10] (fun i wr => ∃ (K : Nat) (t : DS), i = .int .i64 (K : Int) ∧ K ≤ 4 ∧ R = CW (4 - K) K t ∧ OD wr L (Fr CD w wr) t ∧ Chg CD w wr) (fun i _ => 4 - (intOf i).toNat)
  case atStart => exact ⟨0, s, rfl, by omega, HR0.out, hOD0, Chg.refl _ _⟩
  case round =>
    obtain ⟨K, t, rfl, hK, hRK, hO, hc⟩ := hrel
    clear hOD0 HR0
    by_cases hk4 : K = 4
    · subst hk4
      have HE : Hid (R = (0, t)) := by show _ = _; rw [hRK]; exact HEN.out 4 t
      have hLB := HLB.out wr hc
      clear HK HLB HGS HST HEN hRK
      go_wp2_with fail
      go_ret
      rw [HE.out]
      exact ⟨rfl, hO, hLB, hc.weaken (fun _ h => .inl h)⟩
    have HKK := HK.out K wr t hc hO
    have hGS := HGS.out wr hc
    have hun : R = if (SF K t).1 ≠ 0 then SF K t else CW (4 - (K + 1)) (K + 1) (SF K t).2 := by
      rw [hRK, show 4 - K = (4 - (K + 1)) + 1 by omega]
      exact HST.out _ _ _
    have HRU : Hid (∀ X : Int × DS, SF K t = X → R = if X.1 ≠ 0 then X else CW (4 - (K + 1)) (K + 1) X.2) := fun X hX => by rw [← hX]; exact hun
    clear hun hRK HK HGS HST HEN
    generalize SF K t = Y at *
    obtain ⟨E, t2⟩ := Y
    have HR2 := HRU.out (E, t2) rfl
    dsimp only at HKK HR2
    clear HRU
    rcases (show K = 0 ∨ K = 1 ∨ K = 2 ∨ K = 3 by omega) with rfl | rfl | rfl | rfl
    · have c0 : wr.cell? ⟨gs, 0, none⟩ = some (stepV bl bn bi bb L.g 0) := hGS.cell rfl
      unfold stepV at c0
      rw [if_pos rfl] at c0
      have HC := HKK.1 rfl
      clear HKK
      go_wp2_with fail
      refine HC.mono ?_
      clear HC c0 hGS
      rintro e W2 ⟨rfl, hO2, hc2⟩
      have hLB := HLB.out W2 hc2
      clear HLB
      by_cases hE : E = 0
      · have b1 : (E != 0) = false := by rw [hE]; rfl
        rw [if_neg (fun h => h hE)] at HR2
        have HR3 : Hid _ := HR2
        clear HR2 hE
        go_wp2_with fail
        go_roundw
        case rel => exact ⟨1, t2, rfl, by omega, HR3.out, hO2, hc2⟩
        case measure => simp [intOf]
      · have b1 : (E != 0) = true := by simp [hE]
        rw [if_pos hE] at HR2
        have HR3 : Hid _ := HR2
        have HDE : Hid (decide (E ≠ 0) = true) := decide_eq_true hE
        clear HR2 hE
        have hx : Blk W2 G 57 (logC L.g size n gen len bg false tv) := hLB
        unfold logC at hx
        have x6 := hx.cell (j := 6) rfl
        have f6 := hx.frozen 6
        have hcG : Chg (fun q => q = G) W2 (W2.setCell ⟨G, 6, none⟩ (.bool true)) := (Chg.refl (fun q => q = G) W2).setCell G 6 _ (fun _ => rfl)
        have hO3 : OD (W2.setCell ⟨G, 6, none⟩ (.bool true)) L (Fr CD w W2) t2 := hO2.chg hcG (fun q hq e => by subst e; exact key hG hGl hq)
        have hL3 : LogB (W2.setCell ⟨G, 6, none⟩ (.bool true)) G L.g size n gen len bg true tv := (hx.set 6 _).of_eq rfl
        have hs3 : (W2.setCell ⟨G, 6, none⟩ (.bool true)).heap.size = W2.heap.size := by simp
        clear hx hLB
        go_wp2_with fail
        go_ret
        rw [HR3.out]
        dsimp only
        rw [HDE.out]
        exact ⟨rfl, hO3.mono (fun q hq => (by rcases hq with h | h; exact .inl h; exact .inr ⟨h.1, by rw [hs3]; exact h.2⟩)) (fun q hq => by rcases hq with h | h; have := hlt q h; rw [hs3]; have := hc2.size; omega; exact h.2), hL3, (hc2.weaken (fun _ h => .inl h)).trans hcG (fun _ _ h => .inr h)⟩
    · have c0 : wr.cell? ⟨gs, 1, none⟩ = some (stepV bl bn bi bb L.g 1) := hGS.cell rfl
      unfold stepV at c0
      rw [if_neg (by decide), if_neg (by decide)] at c0
      have HC := HKK.2.2 (.inl rfl)
      clear HKK
      go_wp2_with fail
      refine HC.mono ?_
      clear HC c0 hGS
      rintro e W2 ⟨rfl, hO2, hc2⟩
      have hLB := HLB.out W2 hc2
      clear HLB
      by_cases hE : E = 0
      · have b1 : (E != 0) = false := by rw [hE]; rfl
        rw [if_neg (fun h => h hE)] at HR2
        have HR3 : Hid _ := HR2
        clear HR2 hE
        go_wp2_with fail
        go_roundw
        case rel => exact ⟨2, t2, rfl, by omega, HR3.out, hO2, hc2⟩
        case measure => simp [intOf]
      · have b1 : (E != 0) = true := by simp [hE]
        rw [if_pos hE] at HR2
        have HR3 : Hid _ := HR2
        have HDE : Hid (decide (E ≠ 0) = true) := decide_eq_true hE
        clear HR2 hE
        have hx : Blk W2 G 57 (logC L.g size n gen len bg false tv) := hLB
        unfold logC at hx
        have x6 := hx.cell (j := 6) rfl
        have f6 := hx.frozen 6
        have hcG : Chg (fun q => q = G) W2 (W2.setCell ⟨G, 6, none⟩ (.bool true)) := (Chg.refl (fun q => q = G) W2).setCell G 6 _ (fun _ => rfl)
        have hO3 : OD (W2.setCell ⟨G, 6, none⟩ (.bool true)) L (Fr CD w W2) t2 := hO2.chg hcG (fun q hq e => by subst e; exact key hG hGl hq)
        have hL3 : LogB (W2.setCell ⟨G, 6, none⟩ (.bool true)) G L.g size n gen len bg true tv := (hx.set 6 _).of_eq rfl
        have hs3 : (W2.setCell ⟨G, 6, none⟩ (.bool true)).heap.size = W2.heap.size := by simp
        clear hx hLB
        go_wp2_with fail
        go_ret
        rw [HR3.out]
        dsimp only
        rw [HDE.out]
        exact ⟨rfl, hO3.mono (fun q hq => (by rcases hq with h | h; exact .inl h; exact .inr ⟨h.1, by rw [hs3]; exact h.2⟩)) (fun q hq => by rcases hq with h | h; have := hlt q h; rw [hs3]; have := hc2.size; omega; exact h.2), hL3, (hc2.weaken (fun _ h => .inl h)).trans hcG (fun _ _ h => .inr h)⟩
    · have c0 : wr.cell? ⟨gs, 2, none⟩ = some (stepV bl bn bi bb L.g 2) := hGS.cell rfl
      unfold stepV at c0
      rw [if_neg (by decide), if_pos rfl] at c0
      have HC := HKK.2.1 rfl
      clear HKK
      go_wp2_with fail
      refine HC.mono ?_
      clear HC c0 hGS
      rintro e W2 ⟨rfl, hO2, hc2⟩
      have hLB := HLB.out W2 hc2
      clear HLB
      by_cases hE : E = 0
      · have b1 : (E != 0) = false := by rw [hE]; rfl
        rw [if_neg (fun h => h hE)] at HR2
        have HR3 : Hid _ := HR2
        clear HR2 hE
        go_wp2_with fail
        go_roundw
        case rel => exact ⟨3, t2, rfl, by omega, HR3.out, hO2, hc2⟩
        case measure => simp [intOf]
      · have b1 : (E != 0) = true := by simp [hE]
        rw [if_pos hE] at HR2
        have HR3 : Hid _ := HR2
        have HDE : Hid (decide (E ≠ 0) = true) := decide_eq_true hE
        clear HR2 hE
        have hx : Blk W2 G 57 (logC L.g size n gen len bg false tv) := hLB
        unfold logC at hx
        have x6 := hx.cell (j := 6) rfl
        have f6 := hx.frozen 6
        have hcG : Chg (fun q => q = G) W2 (W2.setCell ⟨G, 6, none⟩ (.bool true)) := (Chg.refl (fun q => q = G) W2).setCell G 6 _ (fun _ => rfl)
        have hO3 : OD (W2.setCell ⟨G, 6, none⟩ (.bool true)) L (Fr CD w W2) t2 := hO2.chg hcG (fun q hq e => by subst e; exact key hG hGl hq)
        have hL3 : LogB (W2.setCell ⟨G, 6, none⟩ (.bool true)) G L.g size n gen len bg true tv := (hx.set 6 _).of_eq rfl
        have hs3 : (W2.setCell ⟨G, 6, none⟩ (.bool true)).heap.size = W2.heap.size := by simp
        clear hx hLB
        go_wp2_with fail
        go_ret
        rw [HR3.out]
        dsimp only
        rw [HDE.out]
        exact ⟨rfl, hO3.mono (fun q hq => (by rcases hq with h | h; exact .inl h; exact .inr ⟨h.1, by rw [hs3]; exact h.2⟩)) (fun q hq => by rcases hq with h | h; have := hlt q h; rw [hs3]; have := hc2.size; omega; exact h.2), hL3, (hc2.weaken (fun _ h => .inl h)).trans hcG (fun _ _ h => .inr h)⟩
    · have c0 : wr.cell? ⟨gs, 3, none⟩ = some (stepV bl bn bi bb L.g 3) := hGS.cell rfl
      unfold stepV at c0
      rw [if_neg (by decide), if_neg (by decide)] at c0
      have HC := HKK.2.2 (.inr rfl)
      clear HKK
      go_wp2_with fail
      refine HC.mono ?_
      clear HC c0 hGS
      rintro e W2 ⟨rfl, hO2, hc2⟩
      have hLB := HLB.out W2 hc2
      clear HLB
      by_cases hE : E = 0
      · have b1 : (E != 0) = false := by rw [hE]; rfl
        rw [if_neg (fun h => h hE)] at HR2
        have HR3 : Hid _ := HR2
        clear HR2 hE
        go_wp2_with fail
        go_roundw
        case rel => exact ⟨4, t2, rfl, by omega, HR3.out, hO2, hc2⟩
        case measure => simp [intOf]
      · have b1 : (E != 0) = true := by simp [hE]
        rw [if_pos hE] at HR2
        have HR3 : Hid _ := HR2
        have HDE : Hid (decide (E ≠ 0) = true) := decide_eq_true hE
        clear HR2 hE
        have hx : Blk W2 G 57 (logC L.g size n gen len bg false tv) := hLB
        unfold logC at hx
        have x6 := hx.cell (j := 6) rfl
        have f6 := hx.frozen 6
        have hcG : Chg (fun q => q = G) W2 (W2.setCell ⟨G, 6, none⟩ (.bool true)) := (Chg.refl (fun q => q = G) W2).setCell G 6 _ (fun _ => rfl)
        have hO3 : OD (W2.setCell ⟨G, 6, none⟩ (.bool true)) L (Fr CD w W2) t2 := hO2.chg hcG (fun q hq e => by subst e; exact key hG hGl hq)
        have hL3 : LogB (W2.setCell ⟨G, 6, none⟩ (.bool true)) G L.g size n gen len bg true tv := (hx.set 6 _).of_eq rfl
        have hs3 : (W2.setCell ⟨G, 6, none⟩ (.bool true)).heap.size = W2.heap.size := by simp
        clear hx hLB
        go_wp2_with fail
        go_ret
        rw [HR3.out]
        dsimp only
        rw [HDE.out]
        exact ⟨rfl, hO3.mono (fun q hq => (by rcases hq with h | h; exact .inl h; exact .inr ⟨h.1, by rw [hs3]; exact h.2⟩)) (fun q hq => by rcases hq with h | h; have := hlt q h; rw [hs3]; have := hc2.size; omega; exact h.2), hL3, (hc2.weaken (fun _ h => .inl h)).trans hcG (fun _ _ h => .inr h)⟩
end Go.Proofs.Ytcfnbmphonkbpaa
