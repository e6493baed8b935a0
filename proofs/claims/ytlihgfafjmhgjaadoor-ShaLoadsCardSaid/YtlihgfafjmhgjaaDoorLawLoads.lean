/-
  What is proved here: of all bytes, and of all that follow, the statement ShaLoads answers true: of which bytes there is a hash, and how it goes on.
  Conditions: the variables firstWords and roundWords hold the words of SHA-256.
-/
import Derived.Test.YtlihgfafjmhgjaaDoorShaAwake
import Derived.Test.YtlihgfafjmhgjaaDoorRefGoes
import Derived.Test.YtlihgfafjmhgjaaDoorAnyHeld
import Derived.Test.YtlihgfafjmhgjaaDoorLawParts
import Derived.Stop.BytesEq
namespace Go.Proofs.YtlihgfafjmhgjaaDoor
open Go.RowKit

theorem seg_string' {w : World} {v : Value} {bs : List UInt8} (h : Seg w v bs) (t : TypeId) (ht : Tryd.prog.underlying t = some .string) : (convert 26 t v).run Tryd.prog w = .ok (.string ⟨bs.toArray⟩) w := by
  rcases h with ⟨rfl, ao, c, rfl, _⟩ | ⟨b, off, c, rfl, _, hr, _⟩
  · rw [run_convert_bytes_string w 26 t 5 _ 0 c Tryd.underlying26 Tryd.underlying5 ht]
    cases ao <;> simp [Conv.bytesToString, loadCells]
    all_goals rfl
  · exact run_convert_bytes_back w 26 t 5 ⟨b, off, none⟩ c bs Tryd.underlying26 Tryd.underlying5 ht (fun j hj => by rw [Addr.add_mid]; exact hr j hj)
theorem beNat_append (a b : List UInt8) : beNat (a ++ b) = beNat a * 256 ^ b.length + beNat b := by
  induction b generalizing a with
  | nil => simp [beNat]
  | cons x b ih =>
    have h1 := ih (a ++ [x])
    have h2 := ih [x]
    rw [List.append_assoc, List.singleton_append] at h1
    rw [List.singleton_append] at h2
    rw [h1, h2, beNat_snoc]
    have h3 : beNat [x] = x.toNat := by simp [beNat]
    rw [h3, List.length_cons, Nat.pow_succ, Nat.add_mul, Nat.mul_assoc, Nat.mul_comm 256, Nat.add_assoc]
theorem digit (l : List UInt8) (i n : Nat) (hn : l.length = n) (hi : i < n) : UInt8.ofNat (beNat l / 2 ^ (8 * (n - 1 - i))) = l[i] := by
  have hs : l = l.take (i + 1) ++ l.drop (i + 1) := (List.take_append_drop _ _).symm
  have h1 : beNat l = beNat (l.take (i + 1)) * 256 ^ (n - 1 - i) + beNat (l.drop (i + 1)) := by
    conv => lhs; rw [hs]
    rw [beNat_append, show (l.drop (i + 1)).length = n - 1 - i by simp; omega]
  have h2 : beNat (l.drop (i + 1)) < 256 ^ (n - 1 - i) := by
    have := beNat_lt (l.drop (i + 1))
    rwa [show (l.drop (i + 1)).length = n - 1 - i by simp; omega] at this
  have h3 : 2 ^ (8 * (n - 1 - i)) = 256 ^ (n - 1 - i) := by rw [Nat.pow_mul]
  have h4 : beNat l / 2 ^ (8 * (n - 1 - i)) = beNat (l.take (i + 1)) := by
    rw [h3, h1, Nat.mul_comm, Nat.mul_add_div (Nat.pow_pos (by omega)), Nat.div_eq_of_lt h2, Nat.add_zero]
  rw [h4, beNat_take_succ l i (by omega)]
  apply UInt8.toNat_inj.1
  rw [ofNat8]
  have := l[i].toNat_lt
  omega
theorem be8_of (l : List UInt8) (h : l.length = 8) : be8 (beNat l) = l := by
  apply List.ext_getElem
  · rw [be8_len, h]
  · intro i h1 h2
    have := digit l i 8 h (by omega)
    simp only [be8, List.getElem_map, List.getElem_range, be8at]
    exact this
theorem wbytes_of (bs : List UInt8) (h : 32 ≤ bs.length) : wbytes (stIn bs).list = bs.take 32 := by
  apply List.ext_getElem
  · rw [wbytes_len]; simp; omega
  · intro j h1 h2
    have hj : j < 32 := by rw [wbytes_len] at h1; exact h1
    have hg : (stIn bs).list.getD (j / 4) 0#32 = wordAt bs (j / 4) := by
      rw [stIn_list]
      have : j / 4 < 8 := by omega
      simp [wordsTo, List.getD, this]
    simp only [wbytes, List.getElem_map, List.getElem_range, wb, List.getElem_take]
    have hl4 : ((bs.drop (4 * (j / 4))).take 4).length = 4 := by simp; omega
    have hlt : beNat ((bs.drop (4 * (j / 4))).take 4) < 2 ^ 32 := Nat.lt_of_lt_of_le (beNat_lt _) (by rw [hl4]; decide)
    rw [hg, wordAt, BitVec.toNat_ofNat, Nat.mod_eq_of_lt hlt]
    have := digit ((bs.drop (4 * (j / 4))).take 4) (j % 4) 4 hl4 (by omega)
    rw [show (4 - 1 - j % 4) = 3 - j % 4 by omega] at this
    rw [this, List.getElem_take, List.getElem_drop]
    congr 1
    omega
theorem small_words (s : St) (d : List UInt8) (h : d.length < 64) : wordsOf s d = s ∧ restOf d = d := by
  have h0 : d.length / 64 = 0 := by omega
  unfold wordsOf restOf
  rw [h0]
  exact ⟨rfl, by simp⟩
theorem save_back (bs : List UInt8) (h : saveOk bs) : saveOf (stIn bs) (bs.drop 40) (lenIn bs) = bs := by
  obtain ⟨h1, h2, h3⟩ := h
  have hd : (bs.drop 40).length < 64 := by simp; omega
  obtain ⟨e1, e2⟩ := small_words (stIn bs) (bs.drop 40) hd
  unfold saveOf
  rw [e1, e2, wbytes_of bs (by omega), lenIn, be8_of _ (by simp; omega)]
  have : bs.drop 40 = (bs.drop 32).drop 8 := by rw [List.drop_drop]
  rw [this, List.append_assoc, List.take_append_drop, List.take_append_drop]

set_option maxRecDepth 100000 in
set_option maxHeartbeats 1000000 in
theorem shaLoads_any (x : Value) (bs : List UInt8) (ao : Option Addr) (len c : Nat) (x' : Value) (ms : List UInt8) (ao' : Option Addr) (len' c' : Nat) (w : World) (hx : x = .slice ao len c) (hl : bs.length = len) (hm : len ≤ maxLen) (hseg : Seg w x bs) (hx' : x' = .slice ao' len' c') (hl' : ms.length = len') (hm' : len' ≤ maxLen) (hseg' : Seg w x' ms) (hgf : 0 < w.heap.size) (hf : Tab w 0 (St.start.list.map v32)) (hgk : 1 < w.heap.size) (hk : Tab w 1 (kWords.map v32)) :
    Calls Tryd.prog 4 #[x, x'] w fun e w' => e = .returned (.bool true) ∧ Below w.heap.size w w' := by
  subst hx; subst hx'
  unfold maxLen at hm hm'
  by_cases hbig : 10000 < len
  · go_enter Tryd.func4, Tryd.ntmps4
    go_wp2_with (go_at_call 7; refine (awake_any _ hgf hf hgk hk).mono ?_; rintro e w1 ⟨rfl, hb1⟩)
    go_ret
    exact ⟨rfl, hb1⟩
  by_cases hbig' : 10000 < len'
  · go_enter Tryd.func4, Tryd.ntmps4
    go_wp2_with (go_at_call 7; refine (awake_any _ hgf hf hgk hk).mono ?_; rintro e w1 ⟨rfl, hb1⟩)
    go_ret
    exact ⟨rfl, hb1⟩
  by_cases hok : saveOk bs
  · have HSB : Hid (saveOf (stIn bs) (bs.drop 40) (lenIn bs) = bs) := save_back bs hok
    obtain ⟨h40, hN1, hN2⟩ := hok
    have hd : (bs.drop 40).length < 64 := by simp; omega
    have hdm : lenIn bs % 64 = (bs.drop 40).length % 64 := by simp; omega
    go_enter Tryd.func4, Tryd.ntmps4
    have hok' : saveOk bs := ⟨h40, hN1, hN2⟩
    go_wp2_with (first | (go_at_call 7; refine (awake_any _ hgf hf hgk hk).mono ?_; rintro e w1 ⟨rfl, hb1⟩) | (go_at_call 11; refine (load_ok _ bs _ (by omega) (by exact hseg.below hb1 (Nat.le_refl _)) hok').mono ?_; rintro e w2 ⟨g, rfl, hgb, hH2, hb2⟩) | (go_at_call 17; refine (refIs_any _ bs _ (by omega) (by exact (hseg.below hb1 (Nat.le_refl _)).below hb2 (Nat.le_refl _))).mono ?_; rintro e w3 ⟨rfl, rfl⟩; rw [if_pos hok']) | fail)
    have s1 := hb1.size
    have hB2 : Below w.heap.size w w3 := hb1.trans (hb2.mono s1)
    have hgw : w.heap.size ≤ g := by omega
    obtain ⟨e1, e2⟩ := small_words (stIn bs) (bs.drop 40) hd
    have hH2' : HashAt w3 g (stIn bs) (bs.drop 40) (lenIn bs) := by unfold HashAt; rw [e1, e2]; exact hH2
    clear hH2 hb1 hb2 e1 e2
    refine (hsave_any g (stIn bs) (bs.drop 40) (lenIn bs) w3 hH2' hdm (by omega)).mono ?_
    rintro e w4 ⟨v4, rfl, ho4, hb4⟩
    rw [HSB.out] at ho4
    have hB4 : Below w.heap.size w w4 := hB2.trans (hb4.mono hB2.size)
    have hH4 := hH2'.below hb4 hH2'.lt
    have s4 := hB4.size
    have hgl3 := hH2'.lt
    clear hB2 hH2' hb4
    go_wp2_with fail
    refine (write_any g (stIn bs) (bs.drop 40) (lenIn bs) _ ms w4 hH4 hdm (hseg'.below hB4 (Nat.le_refl _)) (seg_apart hseg' hl' g hgw) (by omega) (by omega) (by exact hk.below hB4 hgk)).mono ?_
    rintro e w5 ⟨rfl, hH5, hg5⟩
    have hB5 := below_grown hB4 hg5 s4 (fun q hq => by cases hq; exact hgw)
    have ho5 := ho4.grown hg5 (.inr (fun h => by have := (ho4.blocks g h).1; omega))
    have c1 := own_string ho5 (by omega) 9 Tryd.underlying9
    have c2 := seg_string' (hseg.below hB5 (Nat.le_refl _)) 9 Tryd.underlying9
    generalize (⟨bs.toArray⟩ : ByteArray) = BA at c1 c2
    have s5 := hB5.size
    have hgl5 := hH5.lt
    have heq : ∀ w : World, (Op.equalIn 10000 34 (.agg ((sumOf (stIn bs) (bs.drop 40 ++ ms) (lenIn bs + ms.length)).map v8).toArray) (.agg ((sumOf (stIn bs) (bs.drop 40 ++ ms) (lenIn bs + ms.length)).map v8).toArray)).run Tryd.prog w = .ok true w := fun w => by
      have h1 := run_equalIn_bytes (P := Tryd.prog) w 9998 34 5 32 Tryd.underlying34 Tryd.underlying5 (fun w => by kernel_rfl) (sumOf (stIn bs) (bs.drop 40 ++ ms) (lenIn bs + ms.length)) (sumOf (stIn bs) (bs.drop 40 ++ ms) (lenIn bs + ms.length)) (wbytes_len _) (wbytes_len _)
      rw [beq_self_eq_true] at h1
      exact h1
    have hmm : (lenIn bs + ms.length) % 64 = (bs.drop 40 ++ ms).length % 64 := by rw [List.length_append]; omega
    go_wp2_with fail
    refine (hsum_any g (stIn bs) (bs.drop 40 ++ ms) (lenIn bs + ms.length) w5 hH5 hmm (by omega) (by omega) (hk.below hB5 hgk)).mono ?_
    rintro e w6 ⟨rfl, hb6⟩
    have hB6 : Below w.heap.size w w6 := hB5.trans (hb6.mono s5)
    have HSUM : Hid (∀ W, Below w.heap.size w W → Calls Tryd.prog 18 #[.slice ao len c, .slice ao' len' c'] W fun e w' => e = .returned (.agg ((sumOf (stIn bs) (bs.drop 40 ++ ms) (lenIn bs + ms.length)).map v8).toArray) ∧ Below W.heap.size W w') := fun W hW => refGoes_any _ bs _ ms W (by omega) (by omega) (hseg.below hW (Nat.le_refl _)) (hseg'.below hW (Nat.le_refl _)) hok'
    generalize ((sumOf (stIn bs) (bs.drop 40 ++ ms) (lenIn bs + ms.length)).map v8).toArray = SM at heq HSUM ⊢
    go_wp2_with fail
    refine (HSUM.out _ hB6).mono ?_
    rintro e w7 ⟨rfl, hb7⟩
    go_wp2
    go_ret
    exact ⟨rfl, hB6.trans (hb7.mono hB6.size)⟩
  · go_enter Tryd.func4, Tryd.ntmps4
    go_wp2_with (first | (go_at_call 7; refine (awake_any _ hgf hf hgk hk).mono ?_; rintro e w1 ⟨rfl, hb1⟩) | (go_at_call 11; refine (load_bad _ bs _ (by omega) (by exact hseg.below hb1 (Nat.le_refl _)) hok).mono ?_; rintro e w2 ⟨rfl, hb2⟩) | (go_at_call 17; refine (refIs_any _ bs _ (by omega) (by exact (hseg.below hb1 (Nat.le_refl _)).below hb2 (Nat.le_refl _))).mono ?_; rintro e w3 ⟨rfl, rfl⟩; rw [if_neg hok]))
    go_ret
    exact ⟨rfl, hb1.trans (hb2.mono hb1.size)⟩
end Go.Proofs.YtlihgfafjmhgjaaDoor
