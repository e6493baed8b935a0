/-
  What is proved here: of all fields, the statement PackMost answers true: the record in which all is as long as it may be has just as many bytes as pack.Most tells.
  Conditions: none.
-/
import Derived.Test.YtogpanedenpbjabPackAwake
import Derived.Test.YtogpanedenpbjabPackFew
import Derived.Test.YtogpanedenpbjabPackLongest
namespace Go.Proofs.Ytogpanedenpbjab
open Go.RowKit

def FldsIn (w : World) (v : Value) (l : List Fld) : Prop := ∃ n, Flds w n v l
def ValsIn (w : World) (v : Value) (l : List Val) : Prop := ∃ n, Vals w n v l
theorem own_sl {w : World} {base : Nat} {v : Value} {bs : List UInt8} (h : Own w base v bs) : ∃ ao c, v = .slice ao bs.length c := by
  rcases h.2 with ⟨h1, h2⟩ | ⟨g, cap, cur, h1, _⟩
  · rw [h2]; exact ⟨_, _, h1⟩
  · exact ⟨_, _, h1⟩

set_option maxRecDepth 100000 in
set_option maxHeartbeats 1000000 in
theorem packMost_any (v : Value) (l : List Fld) (w : World) (hF : FldsIn w v l) :
    Calls Try.prog 4 #[v] w fun e w' => e = .returned (.bool true) ∧ Below w.heap.size w w' := by
  obtain ⟨n, hF⟩ := hF
  have HF : Hid (∀ W, Below w.heap.size w W → Flds W n v l) := fun W hW => Flds.keeps (Keeps.of_below hW (Nat.le_refl _)) _ _ _ hF
  obtain ⟨ao, c, rfl, _, _⟩ := hF.form
  generalize hM : mostL 4 l = ML
  have HM : Hid (mostL 4 l = ML) := hM
  clear hM
  have HMT : Hid (∀ W, Below w.heap.size w W → Calls Try.prog 7 #[.slice ao l.length c] W fun e w' => e = .returned (.int .i64 ((ML.getD 0 : Nat) : Int)) ∧ Below W.heap.size W w') := fun W hW => by rw [← HM.out]; exact most_any n _ l W (HF.out W hW)
  have HRT : Hid (∀ W, Below w.heap.size w W → Calls Try.prog 9 #[.slice ao l.length c] W fun e w' => e = .returned (.bool ML.isSome) ∧ Below W.heap.size W w') := fun W hW => by rw [← HM.out]; exact right_any n _ l W (HF.out W hW)
  have hMN : Hid (ML = none ∨ ∃ M, ML = some M) := by cases ML with
    | none => exact .inl rfl
    | some M => exact .inr ⟨M, rfl⟩
  go_enter Try.func4, Try.ntmps4
  go_wp2_with (go_at_call 5; refine (pawake_any _).mono ?_; rintro e w1 ⟨rfl, hb1⟩)
  refine (fields_any n _ l 1 w1 (by decide) (by decide) (HF.out _ hb1)).mono ?_
  rintro e w2 ⟨⟨B, rfl⟩, hb2⟩
  have hB2 : Below w.heap.size w w2 := hb1.trans (hb2.mono hb1.size)
  go_wp2_with fail
  refine (HMT.out _ hB2).mono ?_
  rintro e w3 ⟨rfl, hb3⟩
  have hB3 : Below w.heap.size w w3 := hB2.trans (hb3.mono hB2.size)
  cases B with
  | false =>
    go_wp2
    go_ret
    exact ⟨rfl, hB3⟩
  | true =>
    by_cases hbig : 20000 < ML.getD 0
    · have i1 : (20000 : Int) < ((ML.getD 0 : Nat) : Int) := by omega
      generalize ML.getD 0 = MN at *
      go_wp2
      go_ret
      exact ⟨rfl, hB3⟩
    have i1 : ¬ (20000 : Int) < ((ML.getD 0 : Nat) : Int) := by omega
    rcases hMN.out with hn | ⟨M, hn⟩
    · subst hn
      go_wp2_with fail
      refine (HRT.out _ hB3).mono ?_
      rintro e w4 ⟨rfl, hb4⟩
      have hB4 : Below w.heap.size w w4 := hB3.trans (hb4.mono hB3.size)
      go_wp2
      go_ret
      exact ⟨rfl, hB4⟩
    · subst hn
      obtain ⟨p, hp, hpl⟩ := long_enc 4 l M HM.out
      have HE : Hid (encTop l (longL 4 l) = some p) := by
        show _ = _
        unfold encTop
        rw [HM.out]
        simpa using hp
      have HPL : Hid (p.length = M) := hpl
      have HMM : Hid (mostL 4 l = some M) := HM.out
      clear hp hpl HM hMN
      replace i1 : ¬ (20000 : Int) < (M : Int) := i1
      go_wp2_with fail
      refine (HRT.out _ hB3).mono ?_
      rintro e w4 ⟨rfl, hb4⟩
      have hB4 : Below w.heap.size w w4 := hB3.trans (hb4.mono hB3.size)
      go_wp2_with fail
      refine (longest_any 4 n _ l M w4 HMM.out (HF.out _ hB4)).mono ?_
      rintro e w5 ⟨vv, rfl, hV5, hb5⟩
      have hB5 : Below w.heap.size w w5 := hB4.trans (hb5.mono hB4.size)
      have HEN := encode_any n _ l 4 vv _ w5 (HF.out _ hB5) (hV5 _ (Agree.refl _ _))
      rw [HE.out] at HEN
      have HEN' : Hid (Calls Try.prog 6 #[.slice ao l.length c, vv] w5 fun e w' => encodePost w5 (some p) e w') := HEN
      clear HEN hV5 HF
      go_wp2_with fail
      refine HEN'.out.mono ?_
      rintro e w6 ⟨⟨b6, rfl, ho6⟩, hb6⟩
      have hB6 : Below w.heap.size w w6 := hB5.trans (hb6.mono hB5.size)
      obtain ⟨a6, c6, rfl⟩ := own_sl ho6
      rw [HPL.out]
      clear ho6
      go_wp2
      go_ret
      exact ⟨rfl, hB6⟩
end Go.Proofs.Ytogpanedenpbjab
