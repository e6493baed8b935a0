/-
  What is proved here: of all fields and records, the statement PackEncodes answers true: pack.Encode is the document's.
  Conditions: none.
-/
import Derived.Test.YtjepeonekhhgfaaRefPut
import Derived.Test.YtjepeonekhhgfaaPackVals
import Derived.Test.YtjepeonekhhgfaaLawPackFields
namespace Go.Proofs.Ytjepeonekhhgfaa
open Go.RowKit

theorem seg_string {w : World} {v : Value} {bs : List UInt8} (h : Seg w v bs) (t : TypeId) (ht : Try.prog.underlying t = some .string) : (convert 29 t v).run Try.prog w = .ok (.string ⟨bs.toArray⟩) w := by
  rcases h with ⟨rfl, ao, c, rfl, _⟩ | ⟨b, off, c, rfl, _, hr, _⟩
  · rw [run_convert_bytes_string w 29 t 5 _ 0 c Try.underlying29 Try.underlying5 ht]
    cases ao <;> simp [Conv.bytesToString, loadCells]
    all_goals rfl
  · exact run_convert_bytes_back w 29 t 5 ⟨b, off, none⟩ c bs Try.underlying29 Try.underlying5 ht (fun j hj => by rw [Addr.add_mid]; exact hr j hj)

set_option maxRecDepth 100000 in
set_option maxHeartbeats 1000000 in
theorem few_any (n : Nat) (lv : Value) (l : List Fld) (m : Nat) (vv : Value) (v : List Val) (w : World) (hF : Flds w n lv l) (hV : Vals w m vv v) :
    Calls Try.prog 15 #[lv, vv] w fun e w' => someBool e ∧ Below w.heap.size w w' := by
  have H1 : Hid (Calls Try.prog 10 #[lv, .int .i64 1] w fun e w' => someBool e ∧ Below w.heap.size w w') := fields_any n lv l 1 w (by decide) (by decide) hF
  have H2 : Hid (∀ W, Below w.heap.size w W → Calls Try.prog 24 #[vv, .int .i64 5000] W fun e w' => someInt 5000 e ∧ Below W.heap.size W w') := fun W hW => values_any m vv v 5000 W (by decide) (by decide) (Vals.keeps (Keeps.of_below hW (Nat.le_refl _)) _ _ _ hV)
  obtain ⟨ao, c, hlv, _, _⟩ := hF.form
  obtain ⟨av, cv, hvv, _, _⟩ := hV.form
  subst hlv
  subst hvv
  go_enter Try.func15, Try.ntmps15
  go_wp2_with (go_at_call 10; refine H1.out.mono ?_; rintro e w1 ⟨⟨B, rfl⟩, hb1⟩; cases B)
  · go_ret
    exact ⟨someBool_mk _, hb1⟩
  · go_wp2_with (go_at_call 24; refine (H2.out _ (by exact hb1)).mono ?_; rintro e w2 ⟨⟨L, rfl, _, _⟩, hb2⟩)
    go_ret
    exact ⟨someBool_mk _, hb1.trans (hb2.mono hb1.size)⟩

set_option maxRecDepth 100000 in
set_option maxHeartbeats 1000000 in
theorem refEncode_any (n : Nat) (lv : Value) (l : List Fld) (m : Nat) (vv : Value) (v : List Val) (w : World) (hF : Flds w n lv l) (hV : Vals w m vv v) :
    Calls Try.prog 17 #[lv, vv] w fun e w' => encodePost w (encTop l v) e w' := by
  have KF := fun W (hW : Below w.heap.size w W) => Flds.keeps (Keeps.of_below hW (Nat.le_refl _)) _ _ _ hF
  have KV := fun W (hW : Below w.heap.size w W) => Vals.keeps (Keeps.of_below hW (Nat.le_refl _)) _ _ _ hV
  have HR : Hid (Calls Try.prog 12 #[lv] w fun e w' => e = .returned (.bool (mostL 4 l).isSome) ∧ Below w.heap.size w w') := refRight_any n lv l w hF
  obtain ⟨ao, c, hlv, _, _⟩ := hF.form
  obtain ⟨av, cv, hvv, _, _⟩ := hV.form
  cases hm : mostL 4 l with
  | none =>
    have hres : Hid (encTop l v = none) := by show _ = _; unfold encTop; rw [hm]; rfl
    rw [hm] at HR
    subst hlv
    subst hvv
    go_enter Try.func17, Try.ntmps17
    go_wp2_with (go_at_call 12; refine HR.out.mono ?_; rintro e w1 ⟨rfl, hb1⟩)
    go_ret2
    show encodePost w (encTop l v) _ _
    rw [hres.out]
    exact ⟨rfl, hb1⟩
  | some M =>
    have hres : Hid (encTop l v = encL 4 l v) := by show _ = _; unfold encTop; rw [hm]; rfl
    rw [hm] at HR
    have HFi : Hid (∀ W, Below w.heap.size w W → Calls Try.prog 26 #[lv, vv] W fun e w' => e = .returned (.bool (encL 4 l v).isSome) ∧ Below W.heap.size W w') := fun W hW => refFits_any 4 n lv l m vv v M W hm (KF W hW) (KV W hW)
    cases hen : encL 4 l v with
    | none =>
      rw [hen] at HFi
      subst hlv
      subst hvv
      go_enter Try.func17, Try.ntmps17
      go_wp2_with (first | (go_at_call 12; refine HR.out.mono ?_; rintro e w1 ⟨rfl, hb1⟩) | (go_at_call 26; refine (HFi.out _ (by exact hb1)).mono ?_; rintro e w2 ⟨rfl, hb2⟩))
      go_ret2
      show encodePost w (encTop l v) _ _
      rw [hres.out, hen]
      exact ⟨rfl, hb1.trans (hb2.mono hb1.size)⟩
    | some nb =>
      rw [hen] at HFi
      have HP : Hid (∀ W, Below w.heap.size w W → Calls Try.prog 27 #[lv, vv] W fun e w' => ∃ b, e = .returned b ∧ Own w' W.heap.size b nb ∧ Below W.heap.size W w') := fun W hW => refPut_any 4 n lv l m vv v M nb W hm hen (KF W hW) (KV W hW)
      subst hlv
      subst hvv
      go_enter Try.func17, Try.ntmps17
      go_wp2_with (first | (go_at_call 12; refine HR.out.mono ?_; rintro e w1 ⟨rfl, hb1⟩) | (go_at_call 26; refine (HFi.out _ (by exact hb1)).mono ?_; rintro e w2 ⟨rfl, hb2⟩; have hB2 : Below w.heap.size w w2 := hb1.trans (hb2.mono hb1.size)) | (go_at_call 27; refine (HP.out _ (by exact hB2)).mono ?_; rintro e w3 ⟨b3, rfl, ho3, hb3⟩))
      go_ret2
      show encodePost w (encTop l v) _ _
      rw [hres.out, hen]
      exact ⟨⟨_, rfl, ho3.mono hB2.size⟩, hB2.trans (hb3.mono hB2.size)⟩

set_option maxRecDepth 100000 in
set_option maxHeartbeats 1000000 in
theorem packEncodes_any (lv : Value) (l : List Fld) (vv : Value) (v : List Val) (w : World) (hF : FldsIn w lv l) (hV : ValsIn w vv v) :
    Calls Try.prog 4 #[lv, vv] w fun e w' => e = .returned (.bool true) ∧ Below w.heap.size w w' := by
  obtain ⟨n, hF⟩ := hF
  obtain ⟨m, hV⟩ := hV
  have KF := fun W (hW : Below w.heap.size w W) => Flds.keeps (Keeps.of_below hW (Nat.le_refl _)) _ _ _ hF
  have KV := fun W (hW : Below w.heap.size w W) => Vals.keeps (Keeps.of_below hW (Nat.le_refl _)) _ _ _ hV
  have HFew : Hid (∀ W, Below w.heap.size w W → Calls Try.prog 15 #[lv, vv] W fun e w' => someBool e ∧ Below W.heap.size W w') := fun W hW => few_any n lv l m vv v W (KF W hW) (KV W hW)
  have HE : Hid (∀ W, Below w.heap.size w W → Calls Try.prog 16 #[lv, vv] W fun e w' => encodePost W (encTop l v) e w') := fun W hW => encode_any n lv l m vv v W (KF W hW) (KV W hW)
  have HR : Hid (∀ W, Below w.heap.size w W → Calls Try.prog 17 #[lv, vv] W fun e w' => encodePost W (encTop l v) e w') := fun W hW => refEncode_any n lv l m vv v W (KF W hW) (KV W hW)
  obtain ⟨ao, c, hlv, _, _⟩ := hF.form
  obtain ⟨av, cv, hvv, _, _⟩ := hV.form
  subst hlv
  subst hvv
  clear KF KV
  go_enter Try.func4, Try.ntmps4
  go_wp2_with (go_at_call 9; refine (pawake_any _).mono ?_; rintro e w1 ⟨rfl, hb1⟩)
  refine (HFew.out _ hb1).mono ?_
  rintro e w2 ⟨⟨B, rfl⟩, hb2⟩
  have hB2 : Below w.heap.size w w2 := hb1.trans (hb2.mono hb1.size)
  cases B with
  | false =>
    go_wp2
    go_ret
    exact ⟨rfl, hB2⟩
  | true =>
    go_wp2_with fail
    refine (HE.out _ hB2).mono ?_
    intro e w3 hp
    cases hen : encTop l v with
    | none =>
      rw [hen] at hp HR
      obtain ⟨rfl, hb3⟩ := hp
      have hB3 : Below w.heap.size w w3 := hB2.trans (hb3.mono hB2.size)
      have q0 := fun W => seg_string (w := W) (v := .slice none 0 0) (bs := []) (.inl ⟨rfl, none, 0, rfl, fun _ => rfl⟩) 9 Try.underlying9
      go_wp2_with (go_at_call 17; refine (HR.out _ (by exact hB3)).mono ?_; rintro e w4 ⟨rfl, hb4⟩)
      have hB4 : Below w.heap.size w w4 := hB3.trans (hb4.mono hB3.size)
      go_ret
      exact ⟨rfl, hB4⟩
    | some nb =>
      rw [hen] at hp HR
      obtain ⟨⟨b3, rfl, ho3⟩, hb3⟩ := hp
      have hB3 : Below w.heap.size w w3 := hB2.trans (hb3.mono hB2.size)
      go_wp2_with (go_at_call 17; refine (HR.out _ (by exact hB3)).mono ?_; rintro e w4 ⟨⟨b4, rfl, ho4⟩, hb4⟩; have hB4 : Below w.heap.size w w4 := hB3.trans (hb4.mono hB3.size); have q1 := seg_string (ho3.seg.below hb4 (Nat.le_refl _)) 9 Try.underlying9; have q2 := seg_string ho4.seg 9 Try.underlying9; generalize (⟨nb.toArray⟩ : ByteArray) = BA at q1 q2)
      go_ret
      exact ⟨rfl, hB4⟩
end Go.Proofs.Ytjepeonekhhgfaa
