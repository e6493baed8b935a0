/-
  What is proved here: of all fields and records, the statement PackBack answers true: what was encoded is decoded as it was, and has at most as many bytes as Most tells.
  Conditions: none.
-/
import Derived.Test.YtogpanedenpbjaaLawPackApart
import Derived.Test.YtogpanedenpbjaaPackDecode
namespace Go.Proofs.Ytogpanedenpbjaa
open Go.RowKit

set_option maxRecDepth 100000 in
set_option maxHeartbeats 2000000 in
theorem packBack_any (lv : Value) (l : List Fld) (vv : Value) (v : List Val) (w : World) (hF : FldsIn w lv l) (hV : ValsIn w vv v) :
    Calls Try.prog 6 #[lv, vv] w fun e w' => e = .returned (.bool true) ∧ Below w.heap.size w w' := by
  obtain ⟨n, hF⟩ := hF
  obtain ⟨m, hV⟩ := hV
  have KF := fun W (hW : Below w.heap.size w W) => Flds.keeps (Keeps.of_below hW (Nat.le_refl _)) _ _ _ hF
  have KV := fun W (hW : Below w.heap.size w W) => Vals.keeps (Keeps.of_below hW (Nat.le_refl _)) _ _ _ hV
  have HFew : Hid (∀ W, Below w.heap.size w W → Calls Try.prog 15 #[lv, vv] W fun e w' => someBool e ∧ Below W.heap.size W w') := fun W hW => few_any n lv l m vv v W (KF W hW) (KV W hW)
  have HEN : Hid (∀ W, Below w.heap.size w W → Calls Try.prog 16 #[lv, vv] W fun e w' => encodePost W (encTop l v) e w') := fun W hW => encode_any n lv l m vv v W (KF W hW) (KV W hW)
  have HDE : Hid (∀ W bv s, Below w.heap.size w W → Seg W bv s → s.length ≤ maxLen → Calls Try.prog 18 #[lv, bv] W fun e w' => decodePost W (decTop l s) e w') := fun W bv s hW hs hm => decode_any n lv l bv s W (KF W hW) hs hm
  have HSm : Hid (∀ W val, Below w.heap.size w W → Vals W 4 val v → Calls Try.prog 20 #[val, vv] W fun e w' => e = .returned (.bool (sameB v v)) ∧ ∃ m, w' = W.drewN m) := fun W val hW h => same_any 4 val v m vv v W h (KV W hW)
  have HMo : Hid (∀ W, Below w.heap.size w W → Calls Try.prog 13 #[lv] W fun e w' => e = .returned (.int .i64 (((mostL 4 l).getD 0 : Nat) : Int)) ∧ Below W.heap.size W w') := fun W hW => most_any n lv l W (KF W hW)
  have HB : Hid (∀ p, encTop l v = some p → decTop l p = .ok v ∧ p.length ≤ (mostL 4 l).getD 0 ∧ p.length ≤ 1048576) := fun p h => by
    unfold encTop at h
    cases hm : mostL 4 l with
    | none => rw [hm] at h; cases h
    | some k =>
      rw [hm] at h
      have hd := decL_dec 4 l k hm (hF.wf 4) v p [] h
      rw [List.append_nil] at hd
      have hl := encL_len 4 l k v p hm h
      have hk := mostL_le hm
      refine ⟨?_, hl, by omega⟩
      unfold decTop
      rw [hm, hd]
      rfl
  have HSB : Hid (sameB v v = true) := sameB_yes rfl
  obtain ⟨ao, c, hlv, _, _⟩ := hF.form
  obtain ⟨av, cv, hvv, _, _⟩ := hV.form
  subst hlv
  subst hvv
  clear KF KV hF hV
  generalize (mostL 4 l).getD 0 = MN at HMo HB
  go_enter Try.func6, Try.ntmps6
  go_wp2_with (go_at_call 9; refine (pawake_any _).mono ?_; rintro e w1 ⟨rfl, hb1⟩)
  refine (HFew.out _ hb1).mono ?_
  rintro e w2 ⟨⟨B1, rfl⟩, hb2⟩
  have hB2 : Below w.heap.size w w2 := hb1.trans (hb2.mono hb1.size)
  clear hb1 hb2
  cases B1 with
  | false =>
    go_wp2
    go_ret
    exact ⟨rfl, hB2⟩
  | true =>
    go_wp2_with fail
    refine (HEN.out _ hB2).mono ?_
    intro e w3 hp3
    cases hen : encTop l v with
    | none =>
      rw [hen] at hp3
      obtain ⟨rfl, hb3⟩ := hp3
      have hB3 : Below w.heap.size w w3 := hB2.trans (hb3.mono hB2.size)
      go_wp2
      go_ret
      exact ⟨rfl, hB3⟩
    | some p =>
      rw [hen] at hp3
      obtain ⟨⟨b3, rfl, ho3⟩, hb3⟩ := hp3
      have hB3 : Below w.heap.size w w3 := hB2.trans (hb3.mono hB2.size)
      obtain ⟨hd, hpl, hp20⟩ := HB.out p hen
      have hs3 := ho3.seg
      obtain ⟨a3, c3, rfl⟩ := own_sl ho3
      have HD := HDE.out w3 _ p hB3 hs3 (by unfold maxLen; omega)
      rw [hd] at HD
      have HD' : Hid (Calls Try.prog 18 #[.slice ao l.length c, .slice a3 p.length c3] w3 fun e w' => decodePost w3 (.ok v) e w') := HD
      clear HD hd hen HB ho3 HDE hs3
      have i3 : (p.length : Int) ≤ (MN : Int) := by omega
      go_wp2_with fail
      refine HD'.out.mono ?_
      rintro e w4 ⟨⟨val, rfl, hv4⟩, hb4⟩
      have hB4 : Below w.heap.size w w4 := hB3.trans (hb4.mono hB3.size)
      have hvv4 := hv4 _ (Agree.refl _ _)
      obtain ⟨a4, n4, c4, rfl⟩ := vals_form hvv4
      have HS0 := HSm.out w4 _ hB4 hvv4
      rw [HSB.out] at HS0
      have HS4 : Hid (Calls Try.prog 20 #[.slice a4 n4 c4, .slice av v.length cv] w4 fun e w' => e = .returned (.bool true) ∧ ∃ m, w' = w4.drewN m) := HS0
      clear HS0
      clear HD' hv4 hvv4
      go_wp2_with (first | (go_at_call 20; refine HS4.out.mono ?_; rintro e w5 ⟨rfl, m5, rfl⟩) | (go_at_call 13; refine (HMo.out _ (by exact below_drewN hB4 _)).mono ?_; rintro e w6 ⟨rfl, hb6⟩) | fail)
      go_ret
      exact ⟨rfl, (below_drewN hB4 _).trans (hb6.mono hB4.size)⟩
end Go.Proofs.Ytogpanedenpbjaa
