/-
  What is proved here: of all fields and bytes, the statement PackAgain answers true: what is decoded and encoded again is the bytes that it was, and these with a byte more, or a byte less, are no code.
  Conditions: none.
-/
import Derived.Test.YtogpanedenpbjaaLawPackApart
import Derived.Test.YtogpanedenpbjaaPackDecode
namespace Go.Proofs.Ytogpanedenpbjaa
open Go.RowKit

theorem decTop_ok {l : List Fld} {s : List UInt8} {v : List Val} (hw : Fwf 4 l) (h : decTop l s = .ok v) : encTop l v = some s ∧ decTop l (s ++ [0]) = .error 2 ∧ (0 < s.length → decTop l (s.take (s.length - 1)) = .error 2) := by
  unfold decTop at h
  cases hm : mostL 4 l with
  | none => rw [hm] at h; cases h
  | some k =>
    rw [hm] at h
    have hd : decL 4 l s = some (v, []) := by
      cases hd : decL 4 l s with
      | none => rw [hd] at h; cases h
      | some q =>
        obtain ⟨v', t⟩ := q
        cases t with
        | nil => rw [hd] at h; cases h; rfl
        | cons _ _ => rw [hd] at h; cases h
    obtain ⟨p, hp, hs⟩ := decL_enc 4 l k hm s v [] hd
    rw [List.append_nil] at hs
    subst hs
    refine ⟨by unfold encTop; rw [hm]; exact hp, ?_, fun h0 => ?_⟩
    · unfold decTop
      rw [hm, decL_dec 4 l k hm hw v s [0] hp]
      rfl
    · unfold decTop
      rw [hm]
      cases hd' : decL 4 l (s.take (s.length - 1)) with
      | none => rfl
      | some q =>
        obtain ⟨v', t⟩ := q
        cases t with
        | cons _ _ => rfl
        | nil =>
          obtain ⟨p', hp', hs'⟩ := decL_enc 4 l k hm _ v' [] hd'
          rw [List.append_nil] at hs'
          have e : p' ++ s.drop (s.length - 1) = s ++ [] := by rw [← hs', List.take_append_drop, List.append_nil]
          have h2 := (encL_inj 4 l k hm hw v' v p' s _ _ hp' hp e).2
          have h3 : (s.drop (s.length - 1)).length = 0 := by rw [h2]; rfl
          rw [List.length_drop] at h3
          omega
theorem decTop_err {l : List Fld} {s : List UInt8} {c : Int} (h : decTop l s = .error c) : c = 1 ∨ c = 2 := by
  unfold decTop at h
  split at h
  · split at h
    · cases h
    · cases h; exact .inr rfl
  · cases h; exact .inl rfl

set_option maxRecDepth 100000 in
set_option maxHeartbeats 2000000 in
theorem packAgain_any (lv : Value) (l : List Fld) (bv : Value) (bs : List UInt8) (ab : Option Addr) (len cb : Nat) (w : World) (hF : FldsIn w lv l) (hbv : bv = .slice ab len cb) (hlen : bs.length = len) (hmx : len ≤ maxLen) (hS : Seg w (.slice ab len cb) bs) :
    Calls Try.prog 8 #[lv, bv] w fun e w' => e = .returned (.bool true) ∧ Below w.heap.size w w' := by
  subst hbv
  obtain ⟨n, hF⟩ := hF
  have KF := fun W (hW : Below w.heap.size w W) => Flds.keeps (Keeps.of_below hW (Nat.le_refl _)) _ _ _ hF
  have KS := fun W (hW : Below w.heap.size w W) => hS.below hW (Nat.le_refl _)
  have HFi : Hid (∀ W, Below w.heap.size w W → Calls Try.prog 10 #[lv, .int .i64 1] W fun e w' => someBool e ∧ Below W.heap.size W w') := fun W hW => fields_any n lv l 1 W (by decide) (by decide) (KF W hW)
  have HEN : Hid (∀ W val v, Below w.heap.size w W → Vals W 4 val v → Calls Try.prog 16 #[lv, val] W fun e w' => encodePost W (encTop l v) e w') := fun W val v hW hv => encode_any n lv l 4 val v W (KF W hW) hv
  have HDE : Hid (∀ W bv s, Below w.heap.size w W → Seg W bv s → s.length ≤ maxLen → Calls Try.prog 18 #[lv, bv] W fun e w' => decodePost W (decTop l s) e w') := fun W bv s hW hs hm => decode_any n lv l bv s W (KF W hW) hs hm
  have HOK : Hid (∀ v, decTop l bs = .ok v → encTop l v = some bs ∧ decTop l (bs ++ [0]) = .error 2 ∧ (0 < bs.length → decTop l (bs.take (bs.length - 1)) = .error 2)) := fun v h => decTop_ok (hF.wf 4) h
  have HS : Hid (∀ W, Below w.heap.size w W → Seg W (.slice ab len cb) bs) := KS
  have HLE : Hid (bs.length = len) := hlen
  obtain ⟨ao, c, hlv, _, _⟩ := hF.form
  subst hlv
  clear KF hF KS hS hlen
  unfold maxLen at hmx
  go_enter Try.func8, Try.ntmps8
  go_wp2_with (go_at_call 9; refine (pawake_any _).mono ?_; rintro e w1 ⟨rfl, hb1⟩)
  refine (HFi.out _ hb1).mono ?_
  rintro e w2 ⟨⟨B1, rfl⟩, hb2⟩
  have hB2 : Below w.heap.size w w2 := hb1.trans (hb2.mono hb1.size)
  clear hb1 hb2
  cases B1 with
  | false =>
    go_wp2
    go_ret
    exact ⟨rfl, hB2⟩
  | true =>
    by_cases h5 : 5000 < len
    · have i5 : (5000 : Int) < (len : Int) := by omega
      go_wp2
      go_ret
      exact ⟨rfl, hB2⟩
    have i5 : ¬ (5000 : Int) < (len : Int) := by omega
    go_wp2_with fail
    refine (HDE.out _ _ bs hB2 (HS.out _ hB2) (by have := HLE.out; unfold maxLen; omega)).mono ?_
    intro e w3 hp3
    cases hd : decTop l bs with
    | error c3 =>
      rw [hd] at hp3
      obtain ⟨rfl, hb3⟩ := hp3
      have hB3 : Below w.heap.size w w3 := hB2.trans (hb3.mono hB2.size)
      rcases decTop_err hd with rfl | rfl
      · go_wp2
        go_ret
        exact ⟨rfl, hB3⟩
      · go_wp2
        go_ret
        exact ⟨rfl, hB3⟩
    | ok v =>
      rw [hd] at hp3
      obtain ⟨⟨val, rfl, hv3⟩, hb3⟩ := hp3
      have hB3 : Below w.heap.size w w3 := hB2.trans (hb3.mono hB2.size)
      obtain ⟨e1, e2, e3⟩ := HOK.out v hd
      have HE3 := HEN.out w3 val v hB3 (hv3 _ (Agree.refl _ _))
      rw [e1] at HE3
      obtain ⟨a3, n3, c3, rfl⟩ := vals_form (hv3 _ (Agree.refl _ _))
      have HE4 : Hid (Calls Try.prog 16 #[.slice ao l.length c, .slice a3 n3 c3] w3 fun e w' => encodePost w3 (some bs) e w') := HE3
      have HD0 : Hid (decTop l bs = .ok v) := hd
      clear HE3 HEN HOK hd hv3 e1
      have HE2 : Hid (decTop l (bs ++ [0]) = .error 2) := e2
      have HE3 : Hid (0 < bs.length → decTop l (bs.take (bs.length - 1)) = .error 2) := e3
      clear e2 e3
      go_wp2_with fail
      refine HE4.out.mono ?_
      rintro e w4 ⟨⟨b4, rfl, ho4⟩, hb4⟩
      have hB4 : Below w.heap.size w w4 := hB3.trans (hb4.mono hB3.size)
      obtain ⟨a4, c4, rfl⟩ := own_sl ho4
      have hs4 := ho4.seg
      rw [HLE.out] at hs4 ⊢
      clear HE4
      have hsb4 := HS.out _ hB4
      have hlen' := HLE.out
      have h5' : len ≤ 5000 := by omega
      have t4 := hB4.size
      have sg0 : ∀ W : World, Seg (W.alloc (.cells #[.int .u8 0] 5)) (.slice (some ⟨W.heap.size, 0, none⟩) 1 1) [0] := fun W => Seg.of_row (Blk.row (bs := [0]) (Blk.new W 5 #[.int .u8 0])) rfl (Nat.le_refl _) (by simp)
      clear hlen'
      go_wp2_with (first | (at_builtin; refine app_own _ rfl (.tmp 52) (.tmp 53) rfl w4.heap.size _ [] rfl (by exact own_empty _ _ _ rfl (Nat.le_refl _)) _ bs rfl (by exact hsb4.alloc _) (by have := HLE.out; simp; omega) (by simp) ?_; intro v5 w5 ho5 hg5 hv5; rw [List.nil_append] at ho5; have hB5 := below_grown ((Below.refl w4.heap.size w4).alloc (Nat.le_refl _) _) hg5 (by simp) (fun q hq => by have h2 : w4.heap.size = q := Option.some.inj hq; omega); have s5 := hB5.size; clear hg5 hv5) | (at_builtin; refine app_own _ rfl (.tmp 54) (.tmp 55) rfl w4.heap.size _ bs rfl (by exact ho5.alloc _) _ [0] rfl (by exact sg0 _) (by have := HLE.out; simp; omega) (by simp; omega) ?_; intro v6 w6 ho6 hg6 hv6; have hB6 := below_grown (hB5.alloc s5 _) hg6 (by simp; omega) (fun q hq => (ho5.blocks q hq).1); have s6 := hB6.size; clear hg6 hv6) | fail)
      have hB6' : Below w.heap.size w w6 := hB4.trans (hB6.mono t4)
      have hs6 := hs4.below hB6 (Nat.le_refl _)
      refine (HDE.out w6 v6 (bs ++ [0]) hB6' ho6.seg (by have := HLE.out; rw [List.length_append]; unfold maxLen; simp; omega)).mono ?_
      intro e w7 hp7
      rw [HE2.out] at hp7
      obtain ⟨rfl, hb7⟩ := hp7
      have hB7 : Below w.heap.size w w7 := hB6'.trans (hb7.mono hB6'.size)
      have hs7 := hs6.below hb7 (Nat.le_refl _)
      have hsb7 := HS.out _ hB7
      have HSS : Hid (∀ W, Below w7.heap.size w7 W → (convert 29 9 (.slice a4 len c4)).run Try.prog W = .ok (.string ⟨bs.toArray⟩) W ∧ (convert 29 9 (.slice ab len cb)).run Try.prog W = .ok (.string ⟨bs.toArray⟩) W) := fun W hW => ⟨seg_string (hs7.below hW (Nat.le_refl _)) 9 Try.underlying9, seg_string (hsb7.below hW (Nat.le_refl _)) 9 Try.underlying9⟩
      clear ho6 ho5 ho4 hs4 hs6 hs7 hsb4 sg0 hB6 hB5 hb7 hb4 hb3
      have HSEL : Hid (∀ W, (binOp .eql 9 (.string ⟨bs.toArray⟩) (.string ⟨bs.toArray⟩)).run Try.prog W = .ok (.bool true) W) := fun W => eql_string_self W _
      by_cases h0 : 0 < len
      · obtain ⟨k, rfl⟩ : ∃ k, len = k + 1 := ⟨len - 1, by omega⟩
        obtain ⟨hst, hkc⟩ := hsb7.takes k (by omega)
        have l7 := slice_to ab (k + 1) cb k hkc
        have HD8 : Hid (Calls Try.prog 18 #[.slice ao l.length c, .slice ab k cb] w7 fun e w' => decodePost w7 (.error 2) e w') := by
          have h1 := HDE.out w7 _ (bs.take k) hB7 hst (by rw [List.length_take]; have := HLE.out; unfold maxLen; omega)
          have h2 := HE3.out (by have := HLE.out; omega)
          rw [HLE.out, Nat.add_sub_cancel] at h2
          rw [h2] at h1
          exact h1
        clear hst hsb7 HDE HE3 HE2
        go_wp2_with (first | (go_at_call 18; refine HD8.out.mono ?_; rintro e w8 ⟨rfl, hb8⟩; obtain ⟨q1, q2⟩ := HSS.out w8 hb8; have q3 := HSEL.out w8) | fail)
        go_ret
        exact ⟨rfl, hB7.trans (hb8.mono hB7.size)⟩
      · obtain rfl : len = 0 := by omega
        have l7 : ∀ W, (Instr.slice 29 (.slice ab 0 cb) none (some (.int .i64 0)) none).run Try.prog W = .ok (.slice ab 0 cb) W := fun W => slice_to ab 0 cb 0 (Nat.zero_le _) W
        have HD8 : Hid (Calls Try.prog 18 #[.slice ao l.length c, .slice ab 0 cb] w7 fun e w' => decodePost w7 (.ok v) e w') := by
          have h1 := HDE.out w7 _ bs hB7 hsb7 (by have := HLE.out; unfold maxLen; omega)
          rw [HD0.out] at h1
          exact h1
        clear hsb7 HDE HE3 HE2
        go_wp2_with (first | (go_at_call 18; refine HD8.out.mono ?_; rintro e w8 ⟨⟨val8, rfl, hv8⟩, hb8⟩; obtain ⟨a8, n8, c8, rfl⟩ := vals_form (hv8 _ (Agree.refl _ _)); clear hv8; obtain ⟨q1, q2⟩ := HSS.out w8 hb8; have q3 := HSEL.out w8) | fail)
        go_ret
        exact ⟨rfl, hB7.trans (hb8.mono hB7.size)⟩
end Go.Proofs.Ytogpanedenpbjaa
