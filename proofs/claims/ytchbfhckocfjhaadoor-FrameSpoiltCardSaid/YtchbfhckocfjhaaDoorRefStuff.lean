/-
  What is proved here: the document's Stuff answers the bytes without noughts.
  Conditions: at most a million bytes.
-/
import Derived.Test.YtchbfhckocfjhaaDoorFrameStuff
namespace Go.Proofs.YtchbfhckocfjhaaDoor
open Go.RowKit

theorem tw_at (l : List UInt8) (k : Nat) (h : k < (l.takeWhile (· != 0)).length) (hl : k < l.length) : l[k] ≠ 0 := by
  induction l generalizing k with
  | nil => simp at hl
  | cons x t ih =>
    by_cases hx : x = 0
    · simp [hx] at h
    · cases k with
      | zero => simpa using hx
      | succ k =>
        simp only [List.getElem_cons_succ]
        exact ih k (by simpa [hx] using h) (by simpa using hl)
theorem fr_at (l : List UInt8) (k : Nat) (h : k < fr l) (hl : k < l.length) : l[k] ≠ 0 := by
  have h254 := fr_254 l
  have := tw_at (l.take 254) k h (by simp; omega)
  simpa using this
theorem fr_zero (l : List UInt8) (h1 : fr l < 254) (h2 : fr l < l.length) : l[fr l] = 0 := by
  have := fr_stop l h1 h2
  rw [List.drop_eq_getElem_cons h2] at this
  exact (List.cons.inj this).1
theorem fr_snoc (m : List UInt8) : fr (m ++ [0]) = fr m := by
  have h254 := fr_254 m
  have hle := fr_le m
  by_cases h1 : fr m = 254
  · have e : m ++ [0] = m.take (fr m) ++ (m.drop (fr m) ++ [0]) := by rw [← List.append_assoc, List.take_append_drop]
    rw [e, fr_full _ _ (fr_nz m) (by simp; omega), h1]
  · by_cases h2 : fr m < m.length
    · have hs := fr_stop m (by omega) h2
      have e : m ++ [0] = m.take (fr m) ++ (0 :: (m.drop (fr m + 1) ++ [0])) := by
        have := List.take_append_drop (fr m) m
        rw [hs] at this
        conv => lhs; rw [← this]
        simp
      rw [e, fr_of _ _ (fr_nz m) (by simp; omega) (.inr ⟨_, rfl⟩)]; simp; omega
    · have e : m.take (fr m) = m := List.take_of_length_le (by omega)
      have hz := fr_nz m
      rw [e] at hz
      rw [fr_of m [0] hz (by omega) (.inr ⟨_, rfl⟩)]; omega

theorem next_long (acc S m : List UInt8) (hacc : acc ++ stuff m = S) (h : fr m = 254) : ((m ++ [0]).drop (fr m) = [] ∧ acc ++ [UInt8.ofNat (fr m + 1)] ++ m.take (fr m) = S) ∨ ∃ m', (m ++ [0]).drop (fr m) = m' ++ [0] ∧ acc ++ [UInt8.ofNat (fr m + 1)] ++ m.take (fr m) ++ stuff m' = S := by
  refine .inr ⟨m.drop (fr m), ?_, ?_⟩
  · rw [List.drop_append_of_le_length (fr_le m)]
  · rw [← hacc, stuff_254 m h]; simp
theorem next_short (acc S m : List UInt8) (hacc : acc ++ stuff m = S) (h : fr m < 254) : ((m ++ [0]).drop (fr m + 1) = [] ∧ acc ++ [UInt8.ofNat (fr m + 1)] ++ m.take (fr m) = S) ∨ ∃ m', (m ++ [0]).drop (fr m + 1) = m' ++ [0] ∧ acc ++ [UInt8.ofNat (fr m + 1)] ++ m.take (fr m) ++ stuff m' = S := by
  by_cases h2 : fr m < m.length
  · refine .inr ⟨m.drop (fr m + 1), ?_, ?_⟩
    · rw [List.drop_append_of_le_length (by omega)]
    · rw [← hacc, stuff_more m (by omega) h2]; simp
  · refine .inl ⟨?_, ?_⟩
    · exact List.drop_eq_nil_of_le (by simp; omega)
    · rw [← hacc, stuff_last m (by omega) h2]; simp

set_option maxRecDepth 100000 in
set_option maxHeartbeats 4000000 in
theorem refStuff_any (x : Value) (bs : List UInt8) (w : World) (hm : bs.length ≤ 1000000) (hseg : Seg w x bs) :
    Calls Tryd.prog 17 #[x] w fun e w' => ∃ v, e = .returned v ∧ Own w' w.heap.size v (stuff bs) ∧ Below w.heap.size w w' := by
  obtain ⟨ao, c, rfl⟩ := hseg.shapeF
  have HW : Hid (∀ (W : World) (k : Nat), k = W.heap.size → Row (W.alloc (.cells #[.int .u8 0] 5)) k 0 [0]) := fun W k hk => by subst hk; exact row_one W 0 _
  go_enter Tryd.func17, Tryd.ntmps17
  go_wp2_with (first
    | (at_builtin; refine app_own _ rfl (.tmp 6) (.tmp 7) rfl w.heap.size _ [] rfl (by exact own_emptyF _ _ _ rfl (Nat.le_refl _)) _ bs rfl (by exact hseg.alloc _) (by simp; omega) (by simp) ?_; intro v2 w2 ho2 hg2 _; rw [List.nil_append] at ho2; have hB2 := below_grown ((Below.refl w.heap.size w).alloc (Nat.le_refl _) _) hg2 (by simp) (fun q hq => by have h2 : w.heap.size = q := Option.some.inj hq; omega); have s2 := hB2.size; clear hg2; obtain ⟨a2, c2, rfl⟩ := ho2.seg.shapeF)
    | (at_builtin; refine app_own _ rfl (.tmp 8) (.tmp 9) rfl w.heap.size _ bs rfl (by exact ho2.alloc _) _ [0] rfl (by exact Seg.of_row (HW.out w2 _ rfl) rfl (Nat.le_refl _) (by simp)) (by simp; omega) (by simp; omega) ?_; intro v3 w3 ho3 hg3 _; have hB3 := below_grown (hB2.alloc s2 _) hg3 (by simp; omega) (fun q hq => (ho2.blocks q hq).1); have s3 := hB3.size; clear hg3; have hs3 := ho3.seg; obtain ⟨a3, c3, rfl⟩ := hs3.shapeF)
    | fail)
  clear ho2 hB2 HW
  have hl0 : (bs ++ [(0 : UInt8)]).length = bs.length + 1 := by simp
  have hsl := (stuff_len bs.length bs (Nat.le_refl _)).2
  clear ho3
  go_loopw [3, 4] (fun al out wr => ∃ (a : Option Addr) (c : Nat) (rest acc : List UInt8), al = .slice a rest.length c ∧ Seg w3 (.slice a rest.length c) rest ∧ Own wr w3.heap.size out acc ∧ Below w3.heap.size w3 wr ∧ ((rest = [] ∧ acc = stuff bs) ∨ ∃ m, rest = m ++ [0] ∧ acc ++ stuff m = stuff bs)) (fun al _ _ => lenOf al)
  case atStart => exact ⟨a3, c3, bs ++ [0], [], by rw [hl0], hs3, ⟨rfl, .inl ⟨rfl, rfl⟩⟩, Below.refl _ _, .inr ⟨bs, rfl, rfl⟩⟩
  case round =>
    obtain ⟨a, c4, rest, acc, rfl, hs, ho, hb, hcase⟩ := hrel
    rcases hcase with ⟨rfl, rfl⟩ | ⟨m, hrm, hacc⟩
    · go_wp2
      go_ret
      exact ⟨_, rfl, ho.mono s3, hB3.trans (hb.mono s3)⟩
    · obtain ⟨wo, rfl⟩ : ∃ wo : World, wo = wr := ⟨_, rfl⟩
      have hfr : fr rest = fr m := by rw [hrm, fr_snoc]
      have h254 := fr_254 rest
      have hlen : rest.length = m.length + 1 := by rw [hrm]; simp
      have hfl : fr rest < rest.length := by have := fr_le m; omega
      have hsl2 : acc.length ≤ (stuff bs).length := by rw [← hacc]; simp
      have hacl : acc.length + 300 ≤ 1000000000 := by omega
      have hst := hs.takesF (fr rest) (by omega)
      have hsT := hst.1
      have l1 := slice_toF a rest.length c4 (fr rest) hst.2
      have l2 := slice_restF a rest.length c4 (fr rest) (by omega)
      have l3 : ∀ w, (Instr.slice 22 (.slice a rest.length c4) (some (.int .i64 ((fr rest : Int) + 1))) none none).run Tryd.prog w = .ok (.slice (restF a c4 (fr rest + 1)) (rest.length - (fr rest + 1)) (c4 - (fr rest + 1))) w := fun w => by
        have := slice_restF a rest.length c4 (fr rest + 1) (by omega) w
        simpa using this
      have hd2 := hs.dropsF (fr rest) (by omega)
      have hd3 := hs.dropsF (fr rest + 1) (by omega)
      obtain ⟨b, off, rfl, hlc, hr, hbl⟩ := hs.formF (by omega)
      have hrw := hr.below hb hbl
      have HN : Hid (∀ k, k < fr rest → ∃ X, wo.cell? ⟨b, off + k, none⟩ = some (.int .u8 X) ∧ (X == 0) = false) := fun k hk => by
        refine ⟨_, hrw k (by omega), ?_⟩
        have := fr_at rest k hk (by omega)
        simp only [beq_eq_false_iff_ne, ne_eq, n8]
        intro h
        exact this (UInt8.toNat_inj.1 (by simpa using h))
      have HZ : Hid (fr rest < 254 → wo.cell? ⟨b, off + fr rest, none⟩ = some (.int .u8 0)) := fun h => by
        rw [hrw (fr rest) hfl, fr_zero rest h hfl]; rfl
      have HW : Hid (∀ (W : World), Row (W.alloc (.cells #[.int .u8 ((fr rest : Int) + 1)] 5)) W.heap.size 0 [UInt8.ofNat (fr rest + 1)]) := fun W => by rw [byte_form _ h254]; exact row_one W _ _
      have HT : Hid ((rest.take (fr rest)).length = fr rest) := by show _ = _; simp; omega
      have HR : Hid (∀ k, rest.length - k = (rest.drop k).length) := fun k => by simp
      have HTm : Hid (rest.take (fr rest) = m.take (fr m)) := by show _ = _; rw [hfr, hrm, List.take_append_of_le_length (fr_le m)]
      have HA : Hid (acc ++ stuff m = stuff bs) := hacc
      have HM : Hid (rest = m ++ [0] ∧ fr rest = fr m) := ⟨hrm, hfr⟩
      obtain ⟨ab, cb, rfl⟩ := ho.seg.shapeF
      have sw := hb.size
      clear hrm hfr hacc hlen hr hrw hst hsl
      have HXT : Hid (∀ acc2, acc2 = acc ++ [UInt8.ofNat (fr rest + 1)] → (fr rest = 254 → (rest.drop (fr rest) = [] ∧ acc2 ++ rest.take (fr rest) = stuff bs) ∨ ∃ m', rest.drop (fr rest) = m' ++ [0] ∧ acc2 ++ rest.take (fr rest) ++ stuff m' = stuff bs) ∧ (fr rest < 254 → (rest.drop (fr rest + 1) = [] ∧ acc2 ++ rest.take (fr rest) = stuff bs) ∨ ∃ m', rest.drop (fr rest + 1) = m' ++ [0] ∧ acc2 ++ rest.take (fr rest) ++ stuff m' = stuff bs)) := by
        rintro acc2 rfl
        rw [HTm.out, HM.out.2, HM.out.1]
        exact ⟨fun h => next_long acc _ m HA.out h, fun h => next_short acc _ m HA.out h⟩
      clear HTm HM HA
      obtain ⟨RP, hRP⟩ : ∃ RP, RP = acc ++ [UInt8.ofNat (fr rest + 1)] := ⟨_, rfl⟩
      have hX := HXT.out RP hRP
      have HP : Hid (acc ++ [UInt8.ofNat (fr rest + 1)] = RP) := hRP.symm
      have hRl : RP.length ≤ acc.length + 1 := by rw [hRP]; simp
      clear hRP HXT
      generalize rest.take (fr rest) = TK at *
      generalize fr rest = FR at *
      have HX : Hid ((FR = 254 → (rest.drop FR = [] ∧ RP ++ TK = stuff bs) ∨ ∃ m', rest.drop FR = m' ++ [0] ∧ RP ++ TK ++ stuff m' = stuff bs) ∧ (FR < 254 → (rest.drop (FR + 1) = [] ∧ RP ++ TK = stuff bs) ∨ ∃ m', rest.drop (FR + 1) = m' ++ [0] ∧ RP ++ TK ++ stuff m' = stuff bs)) := hX
      clear hX
      go_wp2_with fail
      go_loop [5] (fun n => ∃ k : Nat, n = .int .i64 (k : Int) ∧ k ≤ FR) (fun n => 254 - (intOf n).toNat)
      case atStart => exact ⟨0, rfl, Nat.zero_le _⟩
      case round =>
        obtain ⟨k, rfl, hk⟩ := hrel
        by_cases hkF : k < FR
        · obtain ⟨X, hX, hX0⟩ := HN.out k hkF
          have hk1 : k < 254 := by omega
          have hk2 : k < rest.length := by omega
          clear HN HZ HW
          go_wp2
          go_round
          case rel => exact ⟨k + 1, by simp, by omega⟩
          case measure => simp only [intOf]; omega
        · obtain rfl : k = FR := by omega
          have hTl : TK.length ≤ 254 := by rw [HT.out]; exact h254
          by_cases hF : k < 254
          · have hz := HZ.out hF
            have hdd : decide ((k : Int) < 254) = true := by simp; omega
            have hrel := HX.out.2 hF
            have HL : Hid (rest.length - (k + 1) = (rest.drop (k + 1)).length) := HR.out (k + 1)
            have hme : rest.length - (k + 1) < rest.length := by omega
            have HRL : Hid ((rest.drop (k + 1) = [] ∧ RP ++ TK = stuff bs) ∨ ∃ m', rest.drop (k + 1) = m' ++ [0] ∧ RP ++ TK ++ stuff m' = stuff bs) := hrel
            clear hrel HX HN HZ HR
            go_wp2_with (first
            | (at_builtin; refine app_own _ rfl (.tmp 31) (.tmp 35) rfl w3.heap.size _ acc rfl (by exact ho.alloc _) _ [UInt8.ofNat (k + 1)] rfl (by exact Seg.of_row (HW.out wo) rfl (Nat.le_refl _) (by simp)) (by simp; omega) (by simp; omega) ?_; intro v5 w5 ho5 hg5 _; rw [HP.out] at ho5; have hB5 := below_grown (hb.alloc sw _) hg5 (by simp; omega) (fun q hq => (ho.blocks q hq).1); have s5 := hB5.size; clear hg5; obtain ⟨a5, c5, rfl⟩ := ho5.seg.shapeF)
            | (at_builtin; refine app_own _ rfl (.tmp 37) (.tmp 40) rfl w3.heap.size _ RP rfl ho5 _ TK rfl (hsT.below hB5 (Nat.le_refl _)) (by omega) s5 ?_; intro v6 w6 ho6 hg6 _; have hB6 := below_grown hB5 hg6 s5 (fun q hq => (ho5.blocks q hq).1); clear hg6)
            | fail)
            go_roundw
            case rel => exact ⟨restF (some ⟨b, off, none⟩) c4 (k + 1), c4 - (k + 1), rest.drop (k + 1), RP ++ TK, by rw [HL.out], by rw [← HL.out]; exact hd3, ho6, hB6, HRL.out⟩
            case measure => simp only [lenOf]; exact hme
          · have hdd : decide ((k : Int) < 254) = false := by simp; omega
            have hrel := HX.out.1 (by omega)
            have HL : Hid (rest.length - k = (rest.drop k).length) := HR.out k
            have hme : rest.length - k < rest.length := by omega
            have HRL : Hid ((rest.drop k = [] ∧ RP ++ TK = stuff bs) ∨ ∃ m', rest.drop k = m' ++ [0] ∧ RP ++ TK ++ stuff m' = stuff bs) := hrel
            clear hrel HX HN HZ HR
            go_wp2_with (first
            | (at_builtin; refine app_own _ rfl (.tmp 31) (.tmp 35) rfl w3.heap.size _ acc rfl (by exact ho.alloc _) _ [UInt8.ofNat (k + 1)] rfl (by exact Seg.of_row (HW.out wo) rfl (Nat.le_refl _) (by simp)) (by simp; omega) (by simp; omega) ?_; intro v5 w5 ho5 hg5 _; rw [HP.out] at ho5; have hB5 := below_grown (hb.alloc sw _) hg5 (by simp; omega) (fun q hq => (ho.blocks q hq).1); have s5 := hB5.size; clear hg5; obtain ⟨a5, c5, rfl⟩ := ho5.seg.shapeF)
            | (at_builtin; refine app_own _ rfl (.tmp 37) (.tmp 40) rfl w3.heap.size _ RP rfl ho5 _ TK rfl (hsT.below hB5 (Nat.le_refl _)) (by omega) s5 ?_; intro v6 w6 ho6 hg6 _; have hB6 := below_grown hB5 hg6 s5 (fun q hq => (ho5.blocks q hq).1); clear hg6)
            | fail)
            go_roundw
            case rel => exact ⟨restF (some ⟨b, off, none⟩) c4 k, c4 - k, rest.drop k, RP ++ TK, by rw [HL.out], by rw [← HL.out]; exact hd2, ho6, hB6, HRL.out⟩
            case measure => simp only [lenOf]; exact hme
end Go.Proofs.YtchbfhckocfjhaaDoor
