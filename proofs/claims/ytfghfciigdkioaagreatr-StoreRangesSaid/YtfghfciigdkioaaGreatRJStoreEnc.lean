/-
  What is proved here: the bytes of a state: the program's encode.
  Conditions: those that each fact names.
-/
import Derived.Test.YtfghfciigdkioaaGreatRJStoreSize
import Derived.Test.YtfghfciigdkioaaGreatRJStoreFlds
import Derived.Test.YtfghfciigdkioaaGreatRJStoreOps
import Derived.Laws.IdiomStrings
namespace Go.Proofs.YtfghfciigdkioaaGreatR
open Go.RowKit Go.Maps Go.Sort Go.Proofs

/-- A string as bytes. -/
theorem conv_sb (k : List UInt8) (w : World) : ∃ c w', (convert 9 34 (.string ⟨k.toArray⟩)).run Tryz.prog w = .ok (.slice (some ⟨w.heap.size, 0, none⟩) k.length c) w' ∧ Seg w' (.slice (some ⟨w.heap.size, 0, none⟩) k.length c) k ∧ Below w.heap.size w w' := by
  have h := run_bytes_of_string (P := Tryz.prog) w 9 34 5 ⟨k.toArray⟩ Tryz.underlying9 Tryz.underlying34 Tryz.underlying5
  rw [str_size] at h
  refine ⟨_, _, h, ?_, ((Below.refl w.heap.size w).drew).alloc (Nat.le_refl _) _⟩
  refine Seg.of_row (fun j hj => ?_) rfl (grownCap_ge w k.length 0 5) (by show _ < (w.drew.heap.push _).size; rw [Array.size_push]; exact Nat.lt_succ_self _)
  rw [Nat.zero_add]
  have := World.cell?_alloc_mark w.drew (bytesRow ⟨k.toArray⟩ (grownCap w k.length 0 5)) 5 ((bytesRow ⟨k.toArray⟩ (grownCap w k.length 0 5)).size, (bytesRow ⟨k.toArray⟩ (grownCap w k.length 0 5)).size + 1) j
  refine Eq.trans this ?_
  rw [bytesRow_at _ _ _ (by simpa using hj)]
  simp [n8]
theorem row_ne_row {w : World} {base base' : Nat} {e e' : TypeId} {size size' : Nat} {v v' : Value} {n n' : Nat} {xs xs' : List Value} (he : e ≠ e') (h : w.ownsRow base e size v n xs) (h' : w.ownsRow base' e' size' v' n' xs') : v.ownBlock = none ∨ v.ownBlock ≠ v'.ownBlock := by
  rcases h.2 with ⟨rfl, _⟩ | ⟨g, cap, cur, rfl, _, hb, _⟩
  · exact .inl rfl
  · right
    rcases h'.2 with ⟨rfl, _⟩ | ⟨g', cap', cur', rfl, _, hb', _⟩
    · intro e; cases e
    · intro e
      have e1 : g = g' := Option.some.inj e
      subst e1
      rw [hb] at hb'
      cases hb'
      exact he rfl
theorem keysB_nil (m : PM) : keysB [] m = keysM m := by
  unfold keysB
  exact List.filter_eq_self.2 (fun _ _ => rfl)
theorem state_step {m : PM} {I : Nat} {p : List UInt8 × List UInt8} (h : m[I]? = some p) : stateM (m.take (I + 1)) = stateM (m.take I) ++ pairB p := by
  unfold stateM
  rw [List.take_add_one, h, List.flatMap_append]
  simp
theorem sizeM_le {m : PM} (hp : PairsR m) : sizeM m ≤ 1092 * m.length := by
  induction m with
  | nil => exact Nat.le_refl _
  | cons p m ih =>
    have h1 := ih (fun q hq => hp q (List.mem_cons_of_mem _ hq))
    have h2 := hp p List.mem_cons_self
    show 4 + p.1.length + p.2.length + sizeM m ≤ 1092 * (m.length + 1)
    omega
set_option maxRecDepth 100000 in
set_option maxHeartbeats 4000000 in
theorem encode_any8 (b : Nat) (C : Nat → Prop) (m : PM) (w : World) (hM : MapP w C b m) (hp : PairsR m) (hml : m.length ≤ 100000) :
    Calls Tryz.prog 29 #[.map (some b)] w fun e w' => ∃ v, e = .returned v ∧ Own w' w.heap.size v (stateM m) ∧ Below w.heap.size w w' := by
  have hsl := sizeM_le hp
  have hbl := hM.lt
  go_enter Tryz.func29, Tryz.ntmps29
  go_wp2_with fail
  refine (pairFields_any w).mono ?_
  rintro e w1 ⟨rfl, hk1, hb1, hs1⟩
  have hF1 := flds_pair hk1
  have hM1 := hM.after hb1
  clear hk1 hs1
  go_wp2_with fail
  refine (size_any8 b C m w1 hM1 hp (by omega)).mono ?_
  rintro e w2 ⟨rfl, hb2⟩
  have hB2 := blift hb1 hb2 hb1.size
  have hM2 := hM1.after hb2
  have hF2 := Flds.keeps (Keeps.of_below hb2 (Nat.le_refl _)) 1 _ _ hF1
  obtain ⟨Z, hZ⟩ : ∃ Z, Z = sizeM m := ⟨_, rfl⟩
  rw [← hZ] at hsl ⊢
  clear hZ hM1 hF1 hb1 hb2 hM
  obtain ⟨i0, hi, hz0, hz1, hz2⟩ := info_parts Tryz.info5
  obtain ⟨w3, hr3, ho3, hg3⟩ := run_make_own (P := Tryz.prog) w2 w2.heap.size 34 5 i0 _ 1 Tryz.underlying34 hi hz0 hz1 .i64 .i64 Z (by rw [hz2]; omega) (by unfold maxLen; omega) (Nat.le_refl _)
  have hb3 : Below w2.heap.size w2 w3 := below_grown (Below.refl _ _) hg3 (Nat.le_refl _) (fun k hk => by cases hk)
  have HM : Hid (∀ W, Below w2.heap.size w2 W → MapP W C b m) := fun W hW => hM2.after hW
  have HF : Hid (∀ W, Below w2.heap.size w2 W → Flds W 1 (.slice (some ⟨w.heap.size, 0, none⟩) 2 2) pairF) := fun W hW => Flds.keeps (Keeps.of_below hW (Nat.le_refl _)) 1 _ _ hF2
  have hO3 : Own w3 w2.heap.size (.slice (some ⟨w2.heap.size, 0, none⟩) 0 Z) [] := ho3
  have hM3 := HM.out w3 hb3
  have HKY : Hid (Calls Tryz.prog 40 #[.map (some b), .string ⟨#[]⟩] w3 fun e w' => ∃ v, e = .returned v ∧ w'.ownsRow w3.heap.size 9 1 v (keysM m).length ((keysM m).map encStr) ∧ Below w3.heap.size w3 w') := by
    have := keys_any b C m [] w3 hM3 (by omega)
    rw [keysB_nil] at this
    exact this
  have hrise := hM2.rise
  clear hM2 hF2 ho3 hg3 hi hz0 hz1 hz2
  go_wp2_with fail
  refine HKY.out.mono ?_
  rintro e w4 ⟨kv, rfl, hK4, hb4⟩
  have hB4 : Below w2.heap.size w2 w4 := blift hb3 hb4 hb3.size
  have hO4 := hO3.below hb4 (Nat.le_refl _)
  have hkl : (keysM m).length = m.length := List.length_map ..
  rw [hkl] at hK4
  have hksl : ∃ ka kc, kv = .slice ka m.length kc := by
    rcases hK4.2 with ⟨rfl, h0⟩ | ⟨g, cap, cur, rfl, _⟩
    · exact ⟨none, 0, by rw [h0]⟩
    · exact ⟨_, _, rfl⟩
  obtain ⟨ka, kc, rfl⟩ := hksl
  clear hM3 hO3 hr3 HKY
  go_wp2_with fail
  go_loopw [4, 16] (fun sv i wr => ∃ I : Nat, i = .int .i64 (I : Int) ∧ I ≤ m.length ∧ Own wr w2.heap.size sv (stateM (m.take I)) ∧ wr.ownsRow w3.heap.size 9 1 (.slice ka m.length kc) m.length ((keysM m).map encStr) ∧ Below w2.heap.size w2 wr) (fun _ i _ => m.length - (intOf i).toNat)
  case atStart => exact ⟨0, rfl, Nat.zero_le _, hO4, hK4, hB4⟩
  case round =>
    clear hO4 hB4 hK4 hb4
    obtain ⟨I, rfl, hI, hO, hK, hB⟩ := hrel
    have hM := HM.out wr hB
    have hsI : (stateM (m.take I)).length ≤ 109200000 := by
      rw [stateM_len]
      have h1 := sizeM_le (m := m.take I) (fun q hq => hp q (List.mem_of_mem_take hq))
      rw [List.length_take] at h1
      omega
    by_cases hlt : I < m.length
    · have i1 : (I : Int) < (m.length : Int) := by omega
      have hg : m[I]? = some m[I] := List.getElem?_eq_getElem hlt
      obtain ⟨p, hpp⟩ : ∃ p, m[I] = p := ⟨_, rfl⟩
      rw [hpp] at hg
      clear hpp
      have hpb := hp p (List.mem_of_getElem? hg)
      have hlook : lookM m p.1 = some p.2 := mem_look hM.rise (List.mem_of_getElem? hg)
      obtain ⟨kg, rfl⟩ : ∃ kg, ka = some ⟨kg, 0, none⟩ := by
        rcases hK.2 with ⟨_, h0⟩ | ⟨g, cap, cur, e, _⟩
        · omega
        · cases e; exact ⟨g, rfl⟩
      have hkc : wr.cell? ⟨kg, I, none⟩ = some (.string ⟨p.1.toArray⟩) := by
        rw [hK.cellAt I (by omega)]
        unfold keysM
        rw [List.getElem?_map, List.getElem?_map, hg]
        rfl
      obtain ⟨cc, w5, hr5, hs5, hb5⟩ := conv_sb p.1 wr
      have hM5 := hM.after hb5
      obtain ⟨va, vc, hr6, hs6⟩ : ∃ va vc, (Instr.lookup 70 (.map (some b)) (.string ⟨p.1.toArray⟩) false).run Tryz.prog w5 = .ok (.slice va p.2.length vc) w5 ∧ Seg w5 (.slice va p.2.length vc) p.2 := by
        obtain ⟨v, h1, h2⟩ := hM5.look p.1 (by unfold maxLen; omega) false
        rw [hlook] at h2
        obtain ⟨va, vc, rfl⟩ := h2.1.shapeD
        exact ⟨va, vc, h1, h2.1⟩
      have HST : Hid (stateM (m.take (I + 1)) = stateM (m.take I) ++ pairB p) := state_step hg
      clear hlook hg
      have hb6 := (Below.refl w5.heap.size w5).alloc (Nat.le_refl _) (.cells #[.int .u64 0, .slice (some ⟨wr.heap.size, 0, none⟩) p.1.length cc, .slice none 0 0, .int .u64 0, .slice va p.2.length vc, .slice none 0 0] 112)
      have hk6 := Blk.new w5 112 #[.int .u64 0, .slice (some ⟨wr.heap.size, 0, none⟩) p.1.length cc, .slice none 0 0, .int .u64 0, .slice va p.2.length vc, .slice none 0 0]
      have hB6 := blift (blift hB hb5 hB.size) hb6 (Nat.le_trans hB.size hb5.size)
      have hV6 : Vals (w5.alloc (.cells #[.int .u64 0, .slice (some ⟨wr.heap.size, 0, none⟩) p.1.length cc, .slice none 0 0, .int .u64 0, .slice va p.2.length vc, .slice none 0 0] 112)) 1 (.slice (some ⟨w5.heap.size, 0, none⟩) 2 2) (pairVs p.1 p.2) := by
        refine ⟨_, 2, rfl, (by show 2 ≤ maxLen; decide), fun _ => ⟨w5.heap.size, 0, rfl, hk6.lt, Nat.le_refl 2, fun i x hx => ?_⟩⟩
        match i, hx with
        | 0, hx =>
          cases hx
          exact ⟨hk6.cell rfl, ⟨_, hk6.cell rfl, hs5.below hb6 (Nat.le_refl _), by show p.1.length ≤ maxLen; unfold maxLen; omega⟩, ⟨none, 0, hk6.cell rfl, Nat.zero_le _, fun h => by cases h⟩, by show 0 < _; decide⟩
        | 1, hx =>
          cases hx
          exact ⟨hk6.cell rfl, ⟨_, hk6.cell rfl, hs6.below hb6 (Nat.le_refl _), by show p.2.length ≤ maxLen; unfold maxLen; omega⟩, ⟨none, 0, hk6.cell rfl, Nat.zero_le _, fun h => by cases h⟩, by show 0 < _; decide⟩
        | (i + 2), hx => cases hx
      have HE := encode_any 1 _ pairF 1 _ (pairVs p.1 p.2) _ (HF.out _ hB6) hV6
      rw [pair_enc p.1 p.2 (by omega) (by omega)] at HE
      have HE : Hid (Calls Tryz.prog 58 #[.slice (some ⟨w.heap.size, 0, none⟩) 2 2, .slice (some ⟨w5.heap.size, 0, none⟩) 2 2] _ fun e w' => encodePost _ (some (pairB p)) e w') := HE
      clear hV6 hk6 hM hM5
      go_wp2_with fail
      obtain ⟨w6, hw6⟩ : ∃ W, W = w5.alloc (.cells #[.int .u64 0, .slice (some ⟨wr.heap.size, 0, none⟩) p.1.length cc, .slice none 0 0, .int .u64 0, .slice va p.2.length vc, .slice none 0 0] 112) := ⟨_, rfl⟩
      rw [← hw6] at HE hb6 hB6 ⊢
      clear hw6
      refine HE.out.mono ?_
      rintro e w7 ⟨⟨bv, rfl, hO7⟩, hb7⟩
      have hbr : Below wr.heap.size wr w7 := blift (blift hb5 hb6 hb5.size) hb7 (Nat.le_trans hb5.size hb6.size)
      have hB7 := blift hB hbr hB.size
      have hOs := hO.below hbr (Nat.le_refl _)
      have hK7 := ownsRow_chg hK (Chg.of_below (S := fun _ => False) hbr (Nat.le_refl _)) (fun _ _ => id)
      have hpl : (pairB p).length ≤ 1092 := by rw [pairB_len]; omega
      obtain ⟨ab, cb, rfl⟩ := hO7.seg.shapeD
      clear HE hO hK hr5 hr6 hs5 hs6 hkc hb5 hb6 hB6 hB
      go_wp2_with (at_builtin; refine app_own _ rfl (.tmp 33) (.tmp 34) rfl w2.heap.size _ (stateM (m.take I)) rfl hOs _ (pairB p) rfl hO7.seg (by omega) (by exact hB7.size) ?_; intro v8 w8 ho8 hg8 hv8)
      have hB8 := below_grown hB7 hg8 hB7.size (fun q hq => (hOs.blocks q hq).1)
      have hK8 := hK7.kept hg8 (row_ne_row (by decide) hK7 hOs)
      go_wp2_with fail
      go_roundw
      case rel => exact ⟨I + 1, by go_num, hlt, by rw [HST.out]; exact ho8, hK8, hB8⟩
      case measure => simp [intOf]; omega
    · have i1 : ¬ (I : Int) < (m.length : Int) := by omega
      obtain rfl : I = m.length := by omega
      rw [List.take_length] at hO
      have HO : Hid (Own wr w2.heap.size u4 (stateM m)) := hO
      clear hO
      go_wp2_with fail
      go_ret
      exact ⟨_, rfl, HO.out.mono hB2.size, hB2.trans (hB.mono hB2.size)⟩
end Go.Proofs.YtfghfciigdkioaaGreatR
