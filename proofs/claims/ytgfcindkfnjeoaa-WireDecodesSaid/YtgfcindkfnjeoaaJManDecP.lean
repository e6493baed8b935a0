/-
  What is proved here: what bytes decode to by a manifest's fields: the values of a manifest whose numbers may be. manifest.Decode answers the manifest whose bytes these are, or that there is none, given what manifestOf answers.
  Conditions: none. those that the fact names.
-/
import Derived.Test.YtgfcindkfnjeoaaJManFlds
import Derived.Test.YtgfcindkfnjeoaaJPackReader
import Derived.Test.YtgfcindkfnjeoaaJRecKit
import Derived.Test.YtgfcindkfnjeoaaJManFresh
namespace Go.Proofs.Ytgfcindkfnjeoaa
open Go.RowKit

theorem rec_sumM {v : List Val} {p : List UInt8} (h : encL 3 [sumF] v = some p) : ∃ x : BitVec 32, v = sumV x ∧ x.toNat < 16777216 := by
  have h : (if [sumF].length = v.length then catO (List.zipWith (encOne (encL 2)) [sumF] v) else none) = some p := h
  split at h
  · rename_i hl
    match v, hl with
    | [a], _ =>
      obtain ⟨q, r, hq, _⟩ := catO_consM h
      obtain ⟨n, rfl, _, h1⟩ := enc_numM hq
      refine ⟨BitVec.ofNat 32 n, ?_, ?_⟩
      · unfold sumV
        rw [BitVec.toNat_ofNat, Nat.mod_eq_of_lt (by omega)]
      · rw [BitVec.toNat_ofNat, Nat.mod_eq_of_lt (by omega)]
        omega
  · cases h
theorem recs_sumM : ∀ {l : List (List Val)} {q : List UInt8}, catO (l.map (encL 3 [sumF])) = some q → ∃ u : List (BitVec 32), l = u.map sumV ∧ ∀ x ∈ u, x.toNat < 16777216
  | [], _, _ => ⟨[], rfl, fun _ h => by cases h⟩
  | v :: l, q, h => by
    obtain ⟨a, r, ha, hr⟩ := catO_consM h
    obtain ⟨x, rfl, hx⟩ := rec_sumM ha
    obtain ⟨u, rfl, hu⟩ := recs_sumM hr
    refine ⟨x :: u, rfl, fun y hy => ?_⟩
    rcases List.mem_cons.1 hy with rfl | hy
    · exact hx
    · exact hu y hy
/-- A manifest whose numbers lie in the fields' bounds. -/
structure InB (m : MM) : Prop where
  v : 1 ≤ m.v ∧ m.v ≤ 1073741824
  s : 1 ≤ m.s ∧ m.s ≤ 32768
  c : 16 ≤ m.c ∧ m.c ≤ 1024
  h : m.h.length = 32
  u : 1 ≤ m.u.length ∧ m.u.length ≤ 128
  x : ∀ x ∈ m.u, x.toNat < 16777216
theorem man_shape {v : List Val} {p : List UInt8} (h : encL 4 manF v = some p) : ∃ m : MM, v = manVs m ∧ InB m := by
  have h : (if manF.length = v.length then catO (List.zipWith (encOne (encL 3)) manF v) else none) = some p := h
  split at h
  · rename_i hl
    match v, hl with
    | [a, b, c, d, e], _ =>
      obtain ⟨q1, r1, h1, hr1⟩ := catO_consM h
      obtain ⟨q2, r2, h2, hr2⟩ := catO_consM hr1
      obtain ⟨q3, r3, h3, hr3⟩ := catO_consM hr2
      obtain ⟨q4, r4, h4, hr4⟩ := catO_consM hr3
      obtain ⟨q5, r5, h5, _⟩ := catO_consM hr4
      obtain ⟨n1, rfl, a1, b1⟩ := enc_numM h1
      obtain ⟨n2, rfl, a2, b2⟩ := enc_numM h2
      obtain ⟨n3, rfl, a3, b3⟩ := enc_numM h3
      obtain ⟨bs, rfl, a4, b4⟩ := enc_bytM h4
      obtain ⟨l, q, rfl, a5, b5, hc⟩ := enc_recM h5
      obtain ⟨u, rfl, hu⟩ := recs_sumM hc
      rw [List.length_map] at a5 b5
      refine ⟨⟨n1, n2, n3, bs, u⟩, ?_, ⟨by show 1 ≤ (n1 : Int) ∧ (n1 : Int) ≤ _; omega, by show 1 ≤ (n2 : Int) ∧ (n2 : Int) ≤ _; omega, by show 16 ≤ (n3 : Int) ∧ (n3 : Int) ≤ _; omega, by show bs.length = 32; omega, ⟨a5, b5⟩, hu⟩⟩
      rfl
  · cases h
/-- What bytes decode to, as a manifest; the code of the fault. -/
theorem man_dec {s : List UInt8} {v : List Val} (h : decTop manF s = .ok v) : ∃ m : MM, v = manVs m ∧ InB m ∧ encTop manF (manVs m) = some s := by
  unfold decTop at h
  cases hm : mostL 4 manF with
  | none => rw [hm] at h; cases h
  | some k =>
    rw [hm] at h
    have h : (match decL 4 manF s with
      | some (v, []) => Except.ok v
      | _ => .error (2 : Int)) = .ok v := h
    split at h
    · rename_i v' hd
      cases h
      obtain ⟨p, hp, hs⟩ := decL_enc 4 manF k hm s _ [] hd
      obtain ⟨m, rfl, hB⟩ := man_shape hp
      refine ⟨m, rfl, hB, ?_⟩
      unfold encTop
      rw [hm]
      rw [List.append_nil] at hs
      rw [hs]
      exact hp
    · cases h
theorem most_manF : mostL 4 manF = some ((mostL 4 manF).getD 0) := by decide
theorem man_derr {s : List UInt8} {c : Int} (h : decTop manF s = .error c) : c = 2 := by
  unfold decTop at h
  rw [if_pos (by decide)] at h
  have h : (match decL 4 manF s with
      | some (v, []) => Except.ok v
      | _ => .error (2 : Int)) = .error c := h
  split at h
  · cases h
  · cases h; rfl
theorem man_wf : Fwf 4 manF := by
  have h0 : ∀ r, Fwf r [] := fun r => by
    cases r with
    | zero => trivial
    | succ r => exact fun _ h => by cases h
  have h1 : Fwf 3 [sumF] := fun f hf => by
    rcases List.mem_cons.1 hf with rfl | hf
    · exact ⟨by decide, h0 _⟩
    · cases hf
  intro f hf
  unfold manF at hf
  simp only [List.mem_cons, List.not_mem_nil, or_false] at hf
  rcases hf with rfl | rfl | rfl | rfl | rfl
  · exact ⟨by decide, h0 _⟩
  · exact ⟨by decide, h0 _⟩
  · exact ⟨by decide, h0 _⟩
  · exact ⟨by decide, h0 _⟩
  · exact ⟨by decide, h1⟩
theorem man_back {m : MM} {p : List UInt8} (h : encTop manF (manVs m) = some p) : decTop manF p = .ok (manVs m) := by
  unfold encTop at h
  rw [if_pos (by decide)] at h
  have hd := decL_dec 4 manF _ most_manF man_wf (manVs m) p [] h
  rw [List.append_nil] at hd
  unfold decTop
  rw [if_pos (by decide), hd]
end Go.Proofs.Ytgfcindkfnjeoaa
namespace Go.Proofs.Ytgfcindkfnjeoaa
open Go.RowKit

theorem sumV_inj : ∀ {a b : List (BitVec 32)}, a.map sumV = b.map sumV → a = b
  | [], [], _ => rfl
  | [], _ :: _, h => by cases h
  | _ :: _, [], h => by cases h
  | x :: a, y :: b, h => by
    rw [List.map_cons, List.map_cons] at h
    injection h with h1 h2
    have hx : x.toNat = y.toNat := by
      unfold sumV at h1
      injection h1 with h1 _
      injection h1
    rw [BitVec.eq_of_toNat_eq hx, sumV_inj h2]
theorem manVs_inj {m k : MM} (hm : 0 ≤ m.v ∧ 0 ≤ m.s ∧ 0 ≤ m.c) (hk : 0 ≤ k.v ∧ 0 ≤ k.s ∧ 0 ≤ k.c) (h : manVs m = manVs k) : m = k := by
  unfold manVs at h
  injection h with h1 h
  injection h with h2 h
  injection h with h3 h
  injection h with h4 h
  injection h with h5 _
  injection h1 with h1
  injection h2 with h2
  injection h3 with h3
  injection h4 with _ h4
  injection h5 with _ _ h5
  obtain ⟨v, s, c, hh, u⟩ := m
  obtain ⟨v', s', c', hh', u'⟩ := k
  have h5 := sumV_inj h5
  simp only at *
  obtain rfl : v = v' := by omega
  obtain rfl : s = s' := by omega
  obtain rfl : c = c' := by omega
  subst h4
  subst h5
  rfl
/-- What a decoding answers. -/
def decIs (W : World) (s : List UInt8) (M : MM) (su : Value) (er : Int) : Prop := M.h.length = 32 ∧ M.u.length ≤ 128 ∧ Wds W su M.u ∧ ((er = 0 ∧ okM M ∧ encTop manF (manVs M) = some s) ∨ (er = 2 ∧ M = zeroM ∧ su = .slice none 0 0 ∧ ∀ m : MM, okM m → encTop manF (manVs m) ≠ some s))
theorem okM_nonneg {m : MM} (h : okM m) : 0 ≤ m.v ∧ 0 ≤ m.s ∧ 0 ≤ m.c := by
  obtain ⟨⟨⟨h1, _⟩, ⟨h2, _⟩, ⟨h3, _⟩, _⟩, _⟩ := h
  omega
theorem InB.nonneg {m : MM} (h : InB m) : 0 ≤ m.v ∧ 0 ≤ m.s ∧ 0 ≤ m.c := by
  have h1 := h.v
  have h2 := h.s
  have h3 := h.c
  omega
/-- Two manifests of the same bytes are one. -/
theorem dec_one {s : List UInt8} {m k : MM} (hm : okM m) (hk : okM k) (h1 : encTop manF (manVs m) = some s) (h2 : encTop manF (manVs k) = some s) : m = k := by
  have e1 := man_back h1
  rw [man_back h2] at e1
  injection e1 with e1
  exact manVs_inj (okM_nonneg hm) (okM_nonneg hk) e1.symm
theorem dec_not {s : List UInt8} {m : MM} (hb : InB m) (hn : ¬ okM m) (he : encTop manF (manVs m) = some s) : ∀ k : MM, okM k → encTop manF (manVs k) ≠ some s := fun k hk h => by
  have e1 := man_back h
  rw [man_back he] at e1
  injection e1 with e1
  exact hn (manVs_inj hb.nonneg (okM_nonneg hk) e1 ▸ hk)
theorem dec_errM {s : List UInt8} {c : Int} (h : decTop manF s = .error c) : ∀ k : MM, okM k → encTop manF (manVs k) ≠ some s := fun k _ hk => by
  rw [man_back hk] at h
  cases h
theorem wds_nil (W : World) : Wds W (.slice none 0 0) zeroM.u := ⟨none, 0, rfl, fun h => by simp [zeroM] at h⟩
theorem OwnW.below {w w' : World} {base B : Nat} {v : Value} {u : List (BitVec 32)} (h : OwnW w base v u) (hb : Below B w w') (hB : w.heap.size ≤ B) : OwnW w' base v u := by
  refine ⟨h.1, ?_⟩
  rcases h.2 with h2 | ⟨g, cap, cur, h1, h2, h3, h4⟩
  · exact .inl h2
  · exact .inr ⟨g, cap, cur, h1, h2, by rw [hb.block g (Nat.lt_of_lt_of_le (Array.getElem?_eq_some_iff.1 h3).1 hB)]; exact h3, h4⟩
set_option maxRecDepth 100000 in
set_option maxHeartbeats 1000000 in
theorem mdec_of (HOF : ∀ (m : MM) (v : Value) (W : World), InB m → Vals W 4 v (manVs m) → Calls Try.prog 66 #[v] W fun e w' => ∃ su, e = .returned (manV m su) ∧ OwnW w' W.heap.size su m.u ∧ Below W.heap.size W w')
    (bv : Value) (s : List UInt8) (w : World) (hS : Seg w bv s) (hl : s.length ≤ maxLen) :
    Calls Try.prog 48 #[bv] w fun e w' => ∃ M su er, e = .returned (.tuple #[manV M su, .int .i64 er]) ∧ decIs w' s M su er ∧ Below w.heap.size w w' := by
  have hbz := built_zero
  have hiZ := manC_info zeroM (.slice none 0 0) (by simp [zeroM])
  have hoZ := manC_one zeroM (.slice none 0 0) rfl
  have hz0 := zeroMan
  have HZ : Hid (∀ W, (∀ k : MM, okM k → encTop manF (manVs k) ≠ some s) → decIs W s zeroM (.slice none 0 0) 2) := fun W h => ⟨by simp [zeroM], by simp [zeroM], wds_nil W, .inr ⟨rfl, rfl, rfl, h⟩⟩
  have HF : Hid (∀ W, Calls Try.prog 51 #[] W fun e w' => ∃ v, e = .returned v ∧ Flds w' 2 v manF ∧ Below W.heap.size W w') := fun W => mflds_any W
  have HD : Hid (∀ W lv, Below w.heap.size w W → Flds W 2 lv manF → Calls Try.prog 27 #[lv, bv] W fun e w' => decodePost W (decTop manF s) e w') := fun W lv hW h => decode_any 2 lv manF bv s W h (hS.below hW (Nat.le_refl _)) hl
  have HOF' : Hid (∀ (m : MM) (v : Value) (W : World), InB m → Vals W 4 v (manVs m) → Calls Try.prog 66 #[v] W fun e w' => ∃ su, e = .returned (manV m su) ∧ OwnW w' W.heap.size su m.u ∧ Below W.heap.size W w') := HOF
  have HVZ : Hid (manV zeroM (.slice none 0 0) = .agg (manC zeroM (.slice none 0 0))) := rfl
  have HSZ : Hid (∀ (m : MM) (su : Value), m.h.length = 32 → (manC zeroM (.slice none 0 0)).size = (manC m su).size) := fun m su h => (manC_size _ _ (by simp [zeroM])).trans (manC_size _ _ h).symm
  clear HOF hS hl
  obtain ⟨Z, hZ⟩ : ∃ Z, Z = manC zeroM (.slice none 0 0) := ⟨_, rfl⟩
  rw [← hZ] at hbz hiZ hoZ HVZ HSZ
  have hz : ∀ w, (zeroValue 25).run Try.prog w = .ok (.agg Z) w := fun w => by rw [hZ]; exact hz0 w
  clear hZ hz0
  have k0 := Blk.new w 25 Z
  have hB0 := (Below.refl w.heap.size w).alloc (Nat.le_refl _) (.cells Z 25)
  go_enter Try.func48, Try.ntmps48
  go_wp2_with fail
  refine (HF.out _).mono ?_
  rintro e w1 ⟨lv, rfl, hF1, hb1⟩
  have k1 := k0.below hb1 k0.lt
  have hB1 : Below w.heap.size w w1 := hB0.trans (hb1.mono hB0.size)
  clear HF hb1 k0 hB0
  go_wp2_with fail
  refine (HD.out _ _ hB1 hF1).mono ?_
  intro e w2 hp
  clear HD hF1
  cases hd : decTop manF s with
  | error c =>
    rw [hd] at hp
    obtain ⟨rfl, hb2⟩ := hp
    obtain rfl := man_derr hd
    have HN := HZ.out
    have k2 := k1.below hb2 k1.lt
    have hB2 : Below w.heap.size w w2 := hB1.trans (hb2.mono hB1.size)
    clear k1 hB1 hb2
    go_wp2_with (first | (refine build_as rfl 25 _ rfl Z (by exact hbz) ?_) | (refine store_blk rfl 25 _ _ rfl rfl w.heap.size Z rfl rfl 25 Z k2 hiZ rfl hoZ ?_; intro W5 k5 hg5 hs5))
    have hB5 : Below w.heap.size w W5 := below_grown hB2 hg5 hB2.size (fun q hq => by cases hq; omega)
    refine bodyPost_ret (v := .tuple #[.agg Z, .int .i64 2]) (results_pairM rfl _ _ w.heap.size 25 Z (0, 0) _ _ rfl rfl k5 Try.underlying25 rfl hiZ) rfl ?_
    exact ⟨zeroM, .slice none 0 0, 2, congrArg (fun x => Ending.returned (.tuple #[x, .int .i64 2])) HVZ.out.symm, HN W5 (dec_errM hd), hB5⟩
  | ok v =>
    rw [hd] at hp
    obtain ⟨⟨val, rfl, hK⟩, hb2⟩ := hp
    obtain ⟨m, rfl, hI, henc⟩ := man_dec hd
    have hV2 := hK w2 (Agree.refl _ _)
    have k2 := k1.below hb2 k1.lt
    have hB2 : Below w.heap.size w w2 := hB1.trans (hb2.mono hB1.size)
    clear k1 hB1 hb2 hK hd
    go_wp2_with fail
    refine (HOF'.out m val w2 hI hV2).mono ?_
    rintro e w3 ⟨su, rfl, ho3, hb3⟩
    have hu3 := ho3.wds
    have k3 := k2.below hb3 k2.lt
    have hB3 : Below w.heap.size w w3 := hB2.trans (hb3.mono hB2.size)
    have hh := hI.h
    have hul := hI.u.2
    have hiM := manC_info m su hh
    have hoM : (manC m su).all (·.oneCell') = true := by
      obtain ⟨ao, c, rfl⟩ := hu3.shape
      exact manC_one m _ rfl
    have hsz := HSZ.out m su hh
    have HR : Hid (∀ W, Below w3.heap.size w3 W → Calls Try.prog 43 #[manV m su] W fun e w' => e = .returned (.bool (decide (okM m))) ∧ Below W.heap.size W w') := fun W hW => mright_any m su W hh (by omega) (hu3.below hW (Nat.le_refl _))
    have HU : Hid (∀ W, Below w3.heap.size w3 W → OwnW W w2.heap.size su m.u) := fun W hW => ho3.below hW (Nat.le_refl _)
    have hlt2 := k2.lt
    have HVM : Hid (manV m su = .agg (manC m su)) := rfl
    clear k2 hB2 hb3 hV2 HOF' HSZ hu3 ho3
    unfold manV at HR
    obtain ⟨MC, hMC⟩ : ∃ MC, MC = manC m su := ⟨_, rfl⟩
    rw [HVM.out, ← hMC]
    rw [← hMC] at HR hiM hoM hsz HVM
    clear hMC
    go_wp2_with (first | (refine store_blk rfl 25 _ _ rfl rfl w3.heap.size MC rfl rfl 25 Z (by exact Blk.new _ _ _) hiM hsz hoM ?_; intro W4 k4 hg4 hs4) | (refine wpList_load_row rfl 25 _ rfl w3.heap.size rfl 25 MC (0, 0) _ k4 Try.underlying25 rfl hiM ?_))
    have hb4 : Below w3.heap.size w3 W4 := fresh_below hg4
    have k3' : Blk W4 w.heap.size 25 Z := (k3.alloc _).grown hg4 (by have := k3.lt; simp; omega)
    have hB4 : Below w.heap.size w W4 := hB3.trans (hb4.mono hB3.size)
    refine (HR.out _ hb4).mono ?_
    rintro e w5 ⟨rfl, hb5⟩
    have q5 := k3'.below hb5 k3'.lt
    have p5 := k4.below hb5 k4.lt
    have hB5 : Below w.heap.size w w5 := hB4.trans (hb5.mono hB4.size)
    have hb35 : Below w3.heap.size w3 w5 := hb4.trans (hb5.mono hb4.size)
    clear hg4 hs4 k3 k3' k4 hb5 hB4
    by_cases hok : okM m
    · rw [decide_eq_true hok]
      go_wp2_with (first | (refine wpList_load_row rfl 25 _ rfl w3.heap.size rfl 25 MC (0, 0) _ p5 Try.underlying25 rfl hiM ?_) | (refine store_blk rfl 25 _ _ rfl rfl w.heap.size MC rfl rfl 25 Z q5 hiM hsz hoM ?_; intro W6 k6 hg6 hs6))
      have hB6 : Below w.heap.size w W6 := below_grown hB5 hg6 hB5.size (fun q hq => by cases hq; omega)
      have ho5 := HU.out w5 hb35
      have hu6 : Wds W6 su m.u := (ho5.grown hg6 (.inr (fun e => by have := (ho5.blocks _ e).1; omega))).wds
      refine bodyPost_ret (v := .tuple #[.agg MC, .int .i64 0]) (results_pairM rfl _ _ w.heap.size 25 MC (0, 0) _ _ rfl rfl k6 Try.underlying25 rfl hiM) rfl ?_
      exact ⟨m, su, 0, congrArg (fun x => Ending.returned (.tuple #[x, .int .i64 0])) HVM.out.symm, ⟨hh, hul, hu6, .inl ⟨rfl, hok, henc⟩⟩, hB6⟩
    · rw [decide_eq_false hok]
      go_wp2_with (first | (refine build_as rfl 25 _ rfl Z (by exact hbz) ?_) | (refine store_blk rfl 25 _ _ rfl rfl w.heap.size Z rfl rfl 25 Z q5 hiZ rfl hoZ ?_; intro W6 k6 hg6 hs6))
      have hB6 : Below w.heap.size w W6 := below_grown hB5 hg6 hB5.size (fun q hq => by cases hq; omega)
      refine bodyPost_ret (v := .tuple #[.agg Z, .int .i64 2]) (results_pairM rfl _ _ w.heap.size 25 Z (0, 0) _ _ rfl rfl k6 Try.underlying25 rfl hiZ) rfl ?_
      exact ⟨zeroM, .slice none 0 0, 2, congrArg (fun x => Ending.returned (.tuple #[x, .int .i64 2])) HVZ.out.symm, HZ.out W6 (dec_not hI hok henc), hB6⟩
end Go.Proofs.Ytgfcindkfnjeoaa
