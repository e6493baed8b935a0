/-
  What is proved here: of all three texts, the statement ShaApart answers true: two hashes that go on from one saved state do not know of one another.
  Conditions: the variables firstWords and roundWords hold the words of SHA-256.
-/
import Derived.Test.YtlihgfafjmhgjaaDoorShaAwake
import Derived.Test.YtlihgfafjmhgjaaDoorShaBack
import Derived.Test.YtlihgfafjmhgjaaDoorRefSum
import Derived.Test.YtlihgfafjmhgjaaDoorAnyHeld
import Derived.Stop.BytesEq
namespace Go.Proofs.YtlihgfafjmhgjaaDoor
open Go.RowKit

theorem seg_apart {w : World} {ao : Option Addr} {len c : Nat} {bs : List UInt8} (hseg : Seg w (.slice ao len c) bs) (hl : bs.length = len) (g : Nat) (hg : w.heap.size ≤ g) : ∀ b off c' n, Value.slice ao len c = .slice (some ⟨b, off, none⟩) n c' → 0 < n → b ≠ g := by
  intro b' o' c' n' h hn
  rcases hseg with ⟨h0, _⟩ | ⟨b, off, c, h1, _, _, h4⟩
  · subst h0; simp at hl; cases h; omega
  · rw [h] at h1; cases h1; omega
theorem HashAt.grown {w w' : World} {g : Nat} {s : St} {d : List UInt8} {n : Nat} {row : Option Nat} (h : HashAt w g s d n) (hb : w.grownBy w' row) (hg : some g ≠ row) : HashAt w' g s d n := Blk.grown h hb hg

set_option maxRecDepth 100000 in
set_option maxHeartbeats 1000000 in
theorem shaApart_any (x : Value) (bs : List UInt8) (ao : Option Addr) (len c : Nat) (x' : Value) (bs' : List UInt8) (ao' : Option Addr) (len' c' : Nat) (x'' : Value) (bs'' : List UInt8) (ao'' : Option Addr) (len'' c'' : Nat) (w : World) (hx : x = .slice ao len c) (hl : bs.length = len) (hm : len ≤ maxLen) (hseg : Seg w x bs) (hx' : x' = .slice ao' len' c') (hl' : bs'.length = len') (hm' : len' ≤ maxLen) (hseg' : Seg w x' bs') (hx'' : x'' = .slice ao'' len'' c'') (hl'' : bs''.length = len'') (hm'' : len'' ≤ maxLen) (hseg'' : Seg w x'' bs'') (hgf : 0 < w.heap.size) (hf : Tab w 0 (St.start.list.map v32)) (hgk : 1 < w.heap.size) (hk : Tab w 1 (kWords.map v32)) :
    Calls Tryd.prog 5 #[x, x', x''] w fun e w' => e = .returned (.bool true) ∧ Below w.heap.size w w' := by
  subst hx; subst hx'; subst hx''
  unfold maxLen at hm hm' hm''
  by_cases hbig : 5000 < len
  · go_enter Tryd.func5, Tryd.ntmps5
    go_wp2_with (first | (go_at_call 7; refine (awake_any _ hgf hf hgk hk).mono ?_; rintro e w1 ⟨rfl, hb1⟩) | (go_at_call 8; refine (new_hash _ (by exact hf.below hb1 hgf)).mono ?_; rintro e w2 ⟨rfl, hH2, hb2⟩))
    go_ret
    exact ⟨rfl, hb1.trans (hb2.mono hb1.size)⟩
  by_cases hbig' : 5000 < len'
  · go_enter Tryd.func5, Tryd.ntmps5
    go_wp2_with (first | (go_at_call 7; refine (awake_any _ hgf hf hgk hk).mono ?_; rintro e w1 ⟨rfl, hb1⟩) | (go_at_call 8; refine (new_hash _ (by exact hf.below hb1 hgf)).mono ?_; rintro e w2 ⟨rfl, hH2, hb2⟩))
    go_ret
    exact ⟨rfl, hb1.trans (hb2.mono hb1.size)⟩
  by_cases hbig'' : 5000 < len''
  · go_enter Tryd.func5, Tryd.ntmps5
    go_wp2_with (first | (go_at_call 7; refine (awake_any _ hgf hf hgk hk).mono ?_; rintro e w1 ⟨rfl, hb1⟩) | (go_at_call 8; refine (new_hash _ (by exact hf.below hb1 hgf)).mono ?_; rintro e w2 ⟨rfl, hH2, hb2⟩))
    go_ret
    exact ⟨rfl, hb1.trans (hb2.mono hb1.size)⟩
  go_enter Tryd.func5, Tryd.ntmps5
  go_wp2_with (first | (go_at_call 7; refine (awake_any _ hgf hf hgk hk).mono ?_; rintro e w1 ⟨rfl, hb1⟩) | (go_at_call 8; refine (new_hash _ (by exact hf.below hb1 hgf)).mono ?_; rintro e w2 ⟨rfl, hH2, hb2⟩) | fail)
  have s1 := hb1.size
  have s2 := hb2.size
  have hB2 : Below w.heap.size w w2 := hb1.trans (hb2.mono s1)
  have hgh := hH2.lt
  clear hb1 hb2
  generalize w1.heap.size = gh at *
  refine (write_any gh St.start [] 0 _ bs w2 hH2 rfl (hseg.below hB2 (Nat.le_refl _)) (seg_apart hseg hl gh (by omega)) (by omega) (by omega) (by exact hk.below hB2 hgk)).mono ?_
  rintro e w3 ⟨rfl, hH3, hg3⟩
  rw [List.nil_append, Nat.zero_add] at hH3
  have hB3 := below_grown hB2 hg3 hB2.size (fun q hq => by cases hq; omega)
  have s3 := hB3.size
  clear hg3 hB2 hH2
  go_wp2_with fail
  refine (hsave_any gh St.start bs bs.length w3 hH3 rfl (by omega)).mono ?_
  rintro e w4 ⟨v4, rfl, ho4, hb4⟩
  have hB4 : Below w.heap.size w w4 := hB3.trans (hb4.mono s3)
  have hH4 := hH3.below hb4 hH3.lt
  have s4 := hB4.size
  clear hB3 hH3 hb4
  go_wp2_with fail
  refine (load_save v4 St.start bs bs.length w4 ho4.seg (by omega) rfl).mono ?_
  rintro e w5 ⟨gx, rfl, hgx, hX5, hb5⟩
  have hB5 : Below w.heap.size w w5 := hB4.trans (hb5.mono s4)
  have hH5 := hH4.below hb5 hH4.lt
  have hgl := hH4.lt
  have s5 := hB5.size
  clear hB4 hH4 hb5 ho4
  go_wp2_with fail
  refine (write_any gx St.start bs bs.length _ bs' w5 hX5 rfl (hseg'.below hB5 (Nat.le_refl _)) (seg_apart hseg' hl' gx (by omega)) (by omega) (by omega) (by exact hk.below hB5 hgk)).mono ?_
  rintro e w6 ⟨rfl, hX6, hg6⟩
  have hB6 := below_grown hB5 hg6 s5 (fun q hq => by cases hq; omega)
  have hH6 := hH5.grown hg6 (by simp; omega)
  have s6 := hB6.size
  clear hB5 hH5 hg6 hX5
  go_wp2_with fail
  refine (write_any gh St.start bs bs.length _ bs'' w6 hH6 rfl (hseg''.below hB6 (Nat.le_refl _)) (seg_apart hseg'' hl'' gh (by omega)) (by omega) (by omega) (by exact hk.below hB6 hgk)).mono ?_
  rintro e w7 ⟨rfl, hH7, hg7⟩
  have hB7 := below_grown hB6 hg7 s6 (fun q hq => by cases hq; omega)
  have hX7 := hX6.grown hg7 (by simp; omega)
  have s7 := hB7.size
  clear hB6 hH6 hg7 hX6
  have sa := hseg.below hB7 (Nat.le_refl _)
  have sb := hseg'.below hB7 (Nat.le_refl _)
  have sc := hseg''.below hB7 (Nat.le_refl _)
  go_wp2_with (first | (at_builtin; refine app_own _ rfl (.tmp 62) (.tmp 63) rfl w7.heap.size _ [] rfl (by exact own_empty _ _ _ rfl (Nat.le_refl _)) _ bs rfl (by exact sa.alloc _) (by simp; omega) (by simp) ?_; intro u8 w8 ho8 hg8 hv8; rw [List.nil_append] at ho8; have hB8 := below_grown ((Below.refl w7.heap.size w7).alloc (Nat.le_refl _) _) hg8 (by simp) (fun q hq => by have h2 : w7.heap.size = q := Option.some.inj hq; omega); have s8 := hB8.size; clear hg8 hv8) | (at_builtin; refine app_own _ rfl (.tmp 64) (.tmp 65) rfl w7.heap.size _ bs rfl ho8 _ bs' rfl (by exact sb.below hB8 (Nat.le_refl _)) (by omega) s8 ?_; intro v9 w9 ho9 hg9 hv9; have hB9 := below_grown hB8 hg9 s8 (fun q hq => (ho8.blocks q hq).1); have s9 := hB9.size; have sa9 := sa.below hB9 (Nat.le_refl _); have sc9 := sc.below hB9 (Nat.le_refl _); clear hg9 hv9 hB8 ho8) | (at_builtin; refine app_own _ rfl (.tmp 67) (.tmp 68) rfl w9.heap.size _ [] rfl (by exact own_empty _ _ _ rfl (Nat.le_refl _)) _ bs rfl (by exact sa9.alloc _) (by simp; omega) (by simp) ?_; intro v10 w10 ho10 hg10 hv10; rw [List.nil_append] at ho10; have hB10 := below_grown ((Below.refl w9.heap.size w9).alloc (Nat.le_refl _) _) hg10 (by simp) (fun q hq => by have h2 : w9.heap.size = q := Option.some.inj hq; omega); have s10 := hB10.size; clear hg10 hv10) | (at_builtin; refine app_own _ rfl (.tmp 69) (.tmp 70) rfl w9.heap.size _ bs rfl ho10 _ bs'' rfl (by exact sc9.below hB10 (Nat.le_refl _)) (by omega) s10 ?_; intro v11 w11 ho11 hg11 hv11; have hB11 := below_grown hB10 hg11 s10 (fun q hq => (ho10.blocks q hq).1); clear hg11 hv11 hB10 ho10) | fail)
  have s11 := hB11.size
  have sg1 := ho9.seg.below hB11 (Nat.le_refl _)
  have sg2 := ho11.seg
  have hB : Below w7.heap.size w7 w11 := hB9.trans (hB11.mono s9)
  have hH := hH7.below hB hH7.lt
  have hX := hX7.below hB hX7.lt
  have hBB : Below w.heap.size w w11 := hB7.trans (hB.mono s7)
  have hgl7 := hH7.lt
  have hxl7 := hX7.lt
  clear hB9 hB11 ho9 ho11 sa9 sc9 sa sb sc hH7 hX7 hB7
  have heq : ∀ (l : List UInt8) (w : World), (Op.equalIn 10000 34 (.agg ((shaOf l).map v8).toArray) (.agg ((shaOf l).map v8).toArray)).run Tryd.prog w = .ok true w := fun l w => by
    have := run_equalIn_bytes (P := Tryd.prog) w 9998 34 5 32 Tryd.underlying34 Tryd.underlying5 (fun w => by kernel_rfl) (shaOf l) (shaOf l) (wbytes_len _) (wbytes_len _)
    rw [beq_self_eq_true] at this
    exact this
  have heq1 := heq (bs ++ bs')
  have heq2 := heq (bs ++ bs'')
  clear heq
  have hk11 := hk.below hBB hgk
  refine (hsum_any gx St.start (bs ++ bs') (bs.length + bs'.length) w11 hX (by simp) (by omega) (by omega) hk11).mono ?_
  rintro e w12 ⟨rfl, hb12⟩
  have hB12 : Below w11.heap.size w11 w12 := hb12
  have e1 : sumOf St.start (bs ++ bs') (bs.length + bs'.length) = shaOf (bs ++ bs') := by unfold shaOf; rw [List.length_append]
  have e2 : sumOf St.start (bs ++ bs'') (bs.length + bs''.length) = shaOf (bs ++ bs'') := by unfold shaOf; rw [List.length_append]
  rw [e1]
  generalize hS1 : ((shaOf (bs ++ bs')).map v8).toArray = S1 at heq1 ⊢
  generalize hS2 : ((shaOf (bs ++ bs'')).map v8).toArray = S2 at heq2
  have HS1 : Hid (((shaOf (bs ++ bs')).map v8).toArray = S1) := hS1
  have HS2 : Hid (((shaOf (bs ++ bs'')).map v8).toArray = S2) := hS2
  clear hS1 hS2
  go_wp2_with fail
  refine (refSum_any _ (bs ++ bs') w12 (sg1.below hB12 (Nat.le_refl _)) (by simp; omega)).mono ?_
  rintro e w13 ⟨rfl, hb13⟩
  have hB13 : Below w11.heap.size w11 w13 := hB12.trans (hb13.mono hB12.size)
  rw [HS1.out]
  clear hb12 hb13 hB12
  have s13 := hB13.size
  go_wp2_with fail
  refine (hsum_any gh St.start (bs ++ bs'') (bs.length + bs''.length) w13 (hH.below hB13 hH.lt) (by simp) (by omega) (by omega) (hk11.below hB13 (by omega))).mono ?_
  rintro e w14 ⟨rfl, hb14⟩
  have hB14 : Below w11.heap.size w11 w14 := hB13.trans (hb14.mono s13)
  rw [e2, HS2.out]
  go_wp2_with fail
  refine (refSum_any _ (bs ++ bs'') w14 (sg2.below hB14 (Nat.le_refl _)) (by simp; omega)).mono ?_
  rintro e w15 ⟨rfl, hb15⟩
  have hB15 : Below w11.heap.size w11 w15 := hB14.trans (hb15.mono hB14.size)
  rw [HS2.out]
  go_wp2
  go_ret
  exact ⟨rfl, hBB.trans (hB15.mono (by omega))⟩
end Go.Proofs.YtlihgfafjmhgjaaDoor
