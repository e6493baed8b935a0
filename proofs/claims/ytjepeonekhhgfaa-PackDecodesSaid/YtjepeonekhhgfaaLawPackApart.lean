/-
  What is proved here: of all fields and two records, the statement PackApart answers true: of two unlike records none's bytes are the beginning of the other's.
  Conditions: none.
-/
import Derived.Test.YtjepeonekhhgfaaRefSame
import Derived.Test.YtjepeonekhhgfaaPackInj
namespace Go.Proofs.Ytjepeonekhhgfaa
open Go.RowKit

theorem slice_hi (ao : Option Addr) (len c n : Nat) (h : n ≤ c) (w : World) : (Instr.slice 29 (.slice ao len c) none (some (.int .i64 (n : Int))) none).run Try.prog w = .ok (.slice ao n c) w := by
  have he : Try.prog.elem 29 = 5 := by kernel_rfl
  have hs : (sizeOf 5).run Try.prog w = .ok 1 w := by kernel_rfl
  have ha : ao.map (·.add 0) = ao := by
    cases ao with
    | none => rfl
    | some a => obtain ⟨b, o, s⟩ := a; simp [Addr.add]
  rw [run_slice_h w 29 ao len c (by rw [he]; exact Try.underlying29) .i64 n (by omega) (by omega), he, hs]
  simp only [Result.andThen_ok, sliced, Int.toNat_natCast, Nat.zero_mul, ha, Nat.sub_zero, ite_self]
theorem seg_takes {w : World} {ao : Option Addr} {len c : Nat} {bs : List UInt8} (h : Seg w (.slice ao len c) bs) (n : Nat) (hn : n ≤ len) : Seg w (.slice ao n c) (bs.take n) ∧ n ≤ c := by
  rcases h with ⟨rfl, ao', c', h, h2⟩ | ⟨b, off, c', h, h2, h3, h4⟩
  · cases h
    obtain rfl : n = 0 := by simpa using hn
    exact ⟨.inl ⟨rfl, _, _, rfl, h2⟩, Nat.zero_le _⟩
  · cases h
    exact ⟨Seg.of_row (h3.take n) (by simp; omega) (by omega) h4, by omega⟩
theorem Flds.wf {w : World} : ∀ (r n : Nat) (v : Value) (l : List Fld), Flds w n v l → Fwf r l
  | 0, _, _, _, _ => trivial
  | r + 1, n, v, l, h => fun f hf => by
    obtain ⟨ao, c, _, _, h3⟩ := h.form
    obtain ⟨i, hi⟩ := List.getElem?_of_mem hf
    have h0 : 0 < l.length := by
      have := (List.getElem?_eq_some_iff.1 hi).1
      omega
    obtain ⟨b, off, _, _, _, h4⟩ := h3 h0
    obtain ⟨_, _, _, ⟨o, _, ho⟩, _, hm⟩ := h4 i f hi
    exact ⟨hm, Flds.wf r _ o f.of ho⟩
/-- Whether one's beginning is the other's, told by the first bytes of both. -/
theorem apart_iff {l : List Fld} {v u : List Val} {p q : List UInt8} {k : Nat} (hm : mostL 4 l = some k) (hw : Fwf 4 l) (hp : encL 4 l v = some p) (hq : encL 4 l u = some q) : p.take (min p.length q.length) = q.take (min p.length q.length) ↔ v = u := by
  constructor
  · intro h
    rcases Nat.le_total p.length q.length with hl | hl
    · rw [Nat.min_eq_left hl, List.take_of_length_le (Nat.le_refl _)] at h
      have e : p ++ q.drop p.length = q ++ [] := by
        rw [List.append_nil]
        conv => lhs; arg 1; rw [h]
        exact List.take_append_drop _ _
      exact (encL_inj 4 l k hm hw v u p q _ _ hp hq e).1
    · rw [Nat.min_eq_right hl, List.take_of_length_le (l := q) (Nat.le_refl _)] at h
      have e : p ++ [] = q ++ p.drop q.length := by
        rw [List.append_nil]
        conv => rhs; arg 1; rw [← h]
        exact (List.take_append_drop _ _).symm
      exact (encL_inj 4 l k hm hw v u p q _ _ hp hq e).1
  · intro h
    subst h
    rw [hp] at hq
    cases hq
    rfl

set_option maxRecDepth 100000 in
set_option maxHeartbeats 2000000 in
theorem packApart_any (lv : Value) (l : List Fld) (vv : Value) (v : List Val) (uv : Value) (u : List Val) (w : World) (hF : FldsIn w lv l) (hV : ValsIn w vv v) (hU : ValsIn w uv u) :
    Calls Try.prog 7 #[lv, vv, uv] w fun e w' => e = .returned (.bool true) ∧ Below w.heap.size w w' := by
  obtain ⟨n, hF⟩ := hF
  obtain ⟨m, hV⟩ := hV
  obtain ⟨m', hU⟩ := hU
  have KF := fun W (hW : Below w.heap.size w W) => Flds.keeps (Keeps.of_below hW (Nat.le_refl _)) _ _ _ hF
  have KV := fun W (hW : Below w.heap.size w W) => Vals.keeps (Keeps.of_below hW (Nat.le_refl _)) _ _ _ hV
  have KU := fun W (hW : Below w.heap.size w W) => Vals.keeps (Keeps.of_below hW (Nat.le_refl _)) _ _ _ hU
  have HFewV : Hid (∀ W, Below w.heap.size w W → Calls Try.prog 15 #[lv, vv] W fun e w' => someBool e ∧ Below W.heap.size W w') := fun W hW => few_any n lv l m vv v W (KF W hW) (KV W hW)
  have HFewU : Hid (∀ W, Below w.heap.size w W → Calls Try.prog 15 #[lv, uv] W fun e w' => someBool e ∧ Below W.heap.size W w') := fun W hW => few_any n lv l m' uv u W (KF W hW) (KU W hW)
  have HEV : Hid (∀ W, Below w.heap.size w W → Calls Try.prog 16 #[lv, vv] W fun e w' => encodePost W (encTop l v) e w') := fun W hW => encode_any n lv l m vv v W (KF W hW) (KV W hW)
  have HEU : Hid (∀ W, Below w.heap.size w W → Calls Try.prog 16 #[lv, uv] W fun e w' => encodePost W (encTop l u) e w') := fun W hW => encode_any n lv l m' uv u W (KF W hW) (KU W hW)
  have HSm : Hid (∀ W, Below w.heap.size w W → Calls Try.prog 20 #[vv, uv] W fun e w' => e = .returned (.bool (sameB v u)) ∧ ∃ m, w' = W.drewN m) := fun W hW => same_any m vv v m' uv u W (KV W hW) (KU W hW)
  have HAP : Hid (∀ p q, encTop l v = some p → encTop l u = some q → (p.take (min p.length q.length) = q.take (min p.length q.length) ↔ v = u)) := fun p q h1 h2 => by
    unfold encTop at h1 h2
    cases hm : mostL 4 l with
    | none => rw [hm] at h1; cases h1
    | some k =>
      rw [hm] at h1 h2
      exact apart_iff hm (hF.wf 4) h1 h2
  have HLEN : Hid (∀ p, (encTop l v = some p → p.length ≤ 1048576) ∧ (encTop l u = some p → p.length ≤ 1048576)) := fun p => by
    have key : ∀ z, encTop l z = some p → p.length ≤ 1048576 := fun z h => by
      unfold encTop at h
      cases hm : mostL 4 l with
      | none => rw [hm] at h; cases h
      | some k =>
        rw [hm] at h
        exact Nat.le_trans (encL_len 4 l k z p hm h) (mostL_le hm)
    exact ⟨key v, key u⟩
  obtain ⟨ao, c, hlv, _, _⟩ := hF.form
  obtain ⟨av, cv, hvv, _, _⟩ := hV.form
  obtain ⟨au, cu, huv, _, _⟩ := hU.form
  subst hlv
  subst hvv
  subst huv
  clear KF KV KU hF hV hU
  go_enter Try.func7, Try.ntmps7
  go_wp2_with (go_at_call 9; refine (pawake_any _).mono ?_; rintro e w1 ⟨rfl, hb1⟩)
  refine (HFewV.out _ hb1).mono ?_
  rintro e w2 ⟨⟨B1, rfl⟩, hb2⟩
  have hB2 : Below w.heap.size w w2 := hb1.trans (hb2.mono hb1.size)
  go_wp2_with fail
  refine (HFewU.out _ hB2).mono ?_
  rintro e w3 ⟨⟨B2, rfl⟩, hb3⟩
  have hB3 : Below w.heap.size w w3 := hB2.trans (hb3.mono hB2.size)
  clear hb1 hb2 hb3
  cases B1 with
  | false =>
    go_wp2
    go_ret
    exact ⟨rfl, hB3⟩
  | true =>
    cases B2 with
    | false =>
      go_wp2
      go_ret
      exact ⟨rfl, hB3⟩
    | true =>
      go_wp2_with fail
      refine (HEV.out _ hB3).mono ?_
      intro e w4 hp4
      cases hen : encTop l v with
      | none =>
        rw [hen] at hp4
        obtain ⟨rfl, hb4⟩ := hp4
        have hB4 : Below w.heap.size w w4 := hB3.trans (hb4.mono hB3.size)
        go_wp2_with fail
        refine (HEU.out _ hB4).mono ?_
        intro e w5 hp5
        cases hen2 : encTop l u with
        | none =>
          rw [hen2] at hp5
          obtain ⟨rfl, hb5⟩ := hp5
          go_wp2
          go_ret
          exact ⟨rfl, hB4.trans (hb5.mono hB4.size)⟩
        | some q =>
          rw [hen2] at hp5
          obtain ⟨⟨b5, rfl, ho5⟩, hb5⟩ := hp5
          go_wp2
          go_ret
          exact ⟨rfl, hB4.trans (hb5.mono hB4.size)⟩
      | some p =>
        rw [hen] at hp4
        obtain ⟨⟨b4, rfl, ho4⟩, hb4⟩ := hp4
        have hB4 : Below w.heap.size w w4 := hB3.trans (hb4.mono hB3.size)
        go_wp2_with fail
        refine (HEU.out _ hB4).mono ?_
        intro e w5 hp5
        cases hen2 : encTop l u with
        | none =>
          rw [hen2] at hp5
          obtain ⟨rfl, hb5⟩ := hp5
          go_wp2
          go_ret
          exact ⟨rfl, hB4.trans (hb5.mono hB4.size)⟩
        | some q =>
          rw [hen2] at hp5
          obtain ⟨⟨b5, rfl, ho5⟩, hb5⟩ := hp5
          have hB5 : Below w.heap.size w w5 := hB4.trans (hb5.mono hB4.size)
          have hap := HAP.out p q hen hen2
          have s4 := ho4.seg.below hb5 (Nat.le_refl _)
          have s5 := ho5.seg
          obtain ⟨a4, c4, hv4⟩ : ∃ ao c, b4 = .slice ao p.length c := by
            rcases s4 with ⟨h, ao, c, h2, _⟩ | ⟨b, off, c, h2, _, _, _⟩
            · rw [h]; exact ⟨ao, c, h2⟩
            · exact ⟨_, c, h2⟩
          obtain ⟨a5, c5, hv5⟩ : ∃ ao c, b5 = .slice ao q.length c := by
            rcases s5 with ⟨h, ao, c, h2, _⟩ | ⟨b, off, c, h2, _, _, _⟩
            · rw [h]; exact ⟨ao, c, h2⟩
            · exact ⟨_, c, h2⟩
          subst hv4
          subst hv5
          have hpl : p.length ≤ 1048576 := (HLEN.out p).1 hen
          have hql : q.length ≤ 1048576 := (HLEN.out q).2 hen2
          have HC := HSm.out w5 hB5
          obtain ⟨PL, hPL⟩ : ∃ PL, p.length = PL := ⟨_, rfl⟩
          obtain ⟨QL, hQL⟩ : ∃ QL, q.length = QL := ⟨_, rfl⟩
          rw [hPL] at s4 hpl hap ⊢
          rw [hQL] at s5 hql hap ⊢
          have HQ0 : ∀ N, N = min PL QL → ((⟨(p.take N).toArray⟩ : ByteArray).toList == (⟨(q.take N).toArray⟩ : ByteArray).toList) = sameB v u := fun N hN => by
            rw [str_beq, hN]
            by_cases h : v = u
            · rw [sameB_yes h, decide_eq_true (hap.2 h)]
            · rw [sameB_no h, decide_eq_false (fun e => h (hap.1 e))]
          clear hPL hQL
          rcases Nat.lt_trichotomy PL QL with hl | hl | hl
          · have i1 : (PL : Int) < (QL : Int) := by omega
            have t4 := seg_takes s4 PL (by omega)
            have t5 := seg_takes s5 PL (by omega)
            have u4 := fun k => seg_string (t4.1.drewN k) 9 Try.underlying9
            have u5 := fun k => seg_string (t5.1.drewN k) 9 Try.underlying9
            have l4 := fun W => slice_hi a4 PL c4 PL t4.2 W
            have l5 := fun W => slice_hi a5 QL c5 PL t5.2 W
            have HQ := HQ0 PL (by omega)
            generalize (⟨(p.take PL).toArray⟩ : ByteArray) = BP at u4 HQ
            generalize (⟨(q.take PL).toArray⟩ : ByteArray) = BQ at u5 HQ
            generalize sameB v u = SB at HC HQ
            clear t4 t5 s4 s5 ho4 ho5 hap HAP HSm HEV HEU HFewV HFewU HLEN hb4 hb5 HQ0 hen hen2
            go_wp2_with (go_at_call 20; refine HC.mono ?_; rintro e w6 ⟨rfl, nq, rfl⟩)
            go_quiet (fail)
            go_wp2
            go_ret
            exact ⟨by simp, Below.drewN (Below.drewN hB5 _) _⟩
          · subst hl
            have t4 := seg_takes s4 PL (by omega)
            have t5 := seg_takes s5 PL (by omega)
            have u4 := fun k => seg_string (t4.1.drewN k) 9 Try.underlying9
            have u5 := fun k => seg_string (t5.1.drewN k) 9 Try.underlying9
            have l4 := fun W => slice_hi a4 PL c4 PL t4.2 W
            have l5 := fun W => slice_hi a5 PL c5 PL t5.2 W
            have HQ := HQ0 PL (by omega)
            generalize (⟨(p.take PL).toArray⟩ : ByteArray) = BP at u4 HQ
            generalize (⟨(q.take PL).toArray⟩ : ByteArray) = BQ at u5 HQ
            generalize sameB v u = SB at HC HQ
            clear t4 t5 s4 s5 ho4 ho5 hap HAP HSm HEV HEU HFewV HFewU HLEN hb4 hb5 HQ0 hen hen2
            go_wp2_with (go_at_call 20; refine HC.mono ?_; rintro e w6 ⟨rfl, nq, rfl⟩)
            go_quiet (fail)
            go_wp2
            go_ret
            exact ⟨by simp, Below.drewN (Below.drewN hB5 _) _⟩
          · have i1 : (QL : Int) < (PL : Int) := by omega
            have t4 := seg_takes s4 QL (by omega)
            have t5 := seg_takes s5 QL (by omega)
            have u4 := fun k => seg_string (t4.1.drewN k) 9 Try.underlying9
            have u5 := fun k => seg_string (t5.1.drewN k) 9 Try.underlying9
            have l4 := fun W => slice_hi a4 PL c4 QL t4.2 W
            have l5 := fun W => slice_hi a5 QL c5 QL t5.2 W
            have HQ := HQ0 QL (by omega)
            generalize (⟨(p.take QL).toArray⟩ : ByteArray) = BP at u4 HQ
            generalize (⟨(q.take QL).toArray⟩ : ByteArray) = BQ at u5 HQ
            generalize sameB v u = SB at HC HQ
            clear t4 t5 s4 s5 ho4 ho5 hap HAP HSm HEV HEU HFewV HFewU HLEN hb4 hb5 HQ0 hen hen2
            go_wp2_with (go_at_call 20; refine HC.mono ?_; rintro e w6 ⟨rfl, nq, rfl⟩)
            go_quiet (fail)
            go_wp2
            go_ret
            exact ⟨by simp, Below.drewN (Below.drewN hB5 _) _⟩
end Go.Proofs.Ytjepeonekhhgfaa
