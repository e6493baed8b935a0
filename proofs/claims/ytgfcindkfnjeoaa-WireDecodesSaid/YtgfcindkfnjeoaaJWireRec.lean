/-
  What is proved here: records of numbers, and of bytes behind them, as pack has them: which there are, their bytes, and that these are theirs alone.
  Conditions: those that each fact names.
-/
import Derived.Test.YtgfcindkfnjeoaaJRecKit
import Derived.Test.YtgfcindkfnjeoaaJPackReader
namespace Go.Proofs.Ytgfcindkfnjeoaa

/-- Fields of numbers, and perhaps of bytes behind them. -/
def recF : List (Nat × Nat) → Option Nat → List Fld
  | [], none => []
  | [], some m => [.mk 2 0 m []]
  | x :: ns, mb => .mk 1 x.1 x.2 [] :: recF ns mb
def recV : List Nat → Option (List UInt8) → List Val
  | [], none => []
  | [], some b => [.mk 0 b []]
  | n :: xs, bo => .mk n [] [] :: recV xs bo
/-- Numbers within such bounds, and bytes of at most so many. -/
def inNs : List (Nat × Nat) → List Nat → Prop
  | [], [] => True
  | x :: ns, n :: xs => (x.1 ≤ n ∧ n ≤ x.2) ∧ inNs ns xs
  | _, _ => False
def inBs : Option Nat → Option (List UInt8) → Prop
  | none, none => True
  | some m, some b => b.length ≤ m
  | _, _ => False
theorem inNs_len : ∀ {ns : List (Nat × Nat)} {xs : List Nat}, inNs ns xs → xs.length = ns.length
  | [], [], _ => rfl
  | [], _ :: _, h => h.elim
  | _ :: _, [], h => h.elim
  | x :: ns, n :: xs, h => by rw [List.length_cons, List.length_cons, inNs_len h.2]
theorem recV_len : ∀ (xs : List Nat) (bo : Option (List UInt8)), (recV xs bo).length = xs.length + (if bo.isSome then 1 else 0)
  | [], none => rfl
  | [], some _ => rfl
  | n :: xs, bo => by rw [recV, List.length_cons, recV_len xs bo, List.length_cons]; omega
theorem recF_len : ∀ (ns : List (Nat × Nat)) (mb : Option Nat), (recF ns mb).length = ns.length + (if mb.isSome then 1 else 0)
  | [], none => rfl
  | [], some _ => rfl
  | n :: xs, bo => by rw [recF, List.length_cons, recF_len xs bo, List.length_cons]; omega
theorem rec_zip {E : List Fld → List Val → Option (List UInt8)} : ∀ (ns : List (Nat × Nat)) (mb : Option Nat) (v : List Val) (p : List UInt8), (recF ns mb).length = v.length → catO (List.zipWith (encOne E) (recF ns mb) v) = some p → ∃ xs bo, v = recV xs bo ∧ inNs ns xs ∧ inBs mb bo
  | [], none, v, p, hl, h => ⟨[], none, List.eq_nil_of_length_eq_zero hl.symm, trivial, trivial⟩
  | [], some m, [], p, hl, h => by cases hl
  | [], some m, [a], p, hl, h => by
    obtain ⟨q, r, hq, _⟩ := catO_consM h
    obtain ⟨bs, rfl, _, h2⟩ := enc_bytM hq
    exact ⟨[], some bs, rfl, trivial, h2⟩
  | [], some m, a :: b :: v, p, hl, h => by simp [recF] at hl
  | x :: ns, mb, [], p, hl, h => by cases hl
  | x :: ns, mb, a :: v, p, hl, h => by
    obtain ⟨q, r, hq, hr⟩ := catO_consM h
    obtain ⟨n, rfl, h1, h2⟩ := enc_numM hq
    obtain ⟨xs, bo, rfl, h3, h4⟩ := rec_zip ns mb v r (by simpa [recF] using hl) hr
    exact ⟨n :: xs, bo, rfl, ⟨⟨h1, h2⟩, h3⟩, h4⟩
theorem rec_catO {E : List Fld → List Val → Option (List UInt8)} : ∀ (ns : List (Nat × Nat)) (mb : Option Nat) (xs : List Nat) (bo : Option (List UInt8)), inNs ns xs → inBs mb bo → (catO (List.zipWith (encOne E) (recF ns mb) (recV xs bo))).isSome = true
  | [], none, [], none, _, _ => rfl
  | [], some m, [], some b, _, h => by
    refine catO_all _ fun x hx => ?_
    obtain rfl := List.mem_singleton.1 hx
    exact encOne_byt (Nat.zero_le _) h
  | [], none, [], some b, _, h => h.elim
  | [], some m, [], none, _, h => h.elim
  | [], _, _ :: _, _, h, _ => h.elim
  | _ :: _, _, [], _, h, _ => h.elim
  | x :: ns, mb, n :: xs, bo, h, hb => by
    have h1 := rec_catO (E := E) ns mb xs bo h.2 hb
    have h2 : (encOne E (.mk 1 x.1 x.2 []) (.mk n [] [])).isSome = true := encOne_numM h.1.1 h.1.2
    show (catO (encOne E (.mk 1 x.1 x.2 []) (.mk n [] []) :: List.zipWith (encOne E) (recF ns mb) (recV xs bo))).isSome = true
    cases he : encOne E (.mk 1 x.1 x.2 []) (.mk n [] []) with
    | none => rw [he] at h2; cases h2
    | some a =>
      show ((catO _).map (a ++ ·)).isSome = true
      rw [Option.isSome_map]
      exact h1
theorem rec_wf {r : Nat} : ∀ (ns : List (Nat × Nat)) (mb : Option Nat), (∀ x ∈ ns, x.2 < 18446744073709551616) → (∀ m, mb = some m → m < 18446744073709551616) → Fwf (r + 1) (recF ns mb) := by
  have h0 : ∀ r, Fwf r [] := fun r => by
    cases r with
    | zero => trivial
    | succ r => exact fun _ h => by cases h
  intro ns mb h1 h2 f hf
  induction ns with
  | nil =>
    cases mb with
    | none => cases hf
    | some m =>
      obtain rfl := List.mem_singleton.1 hf
      exact ⟨h2 m rfl, h0 _⟩
  | cons x ns ih =>
    rcases List.mem_cons.1 hf with rfl | hf
    · exact ⟨h1 x List.mem_cons_self, h0 _⟩
    · exact ih (fun y hy => h1 y (List.mem_cons_of_mem _ hy)) hf
/-- Fields that may be. -/
structure RecOk (ns : List (Nat × Nat)) (mb : Option Nat) : Prop where
  most : (mostL 4 (recF ns mb)).isSome = true
  nums : ∀ x ∈ ns, x.2 < 18446744073709551616
  byts : ∀ m, mb = some m → m < 18446744073709551616
variable {ns : List (Nat × Nat)} {mb : Option Nat}
theorem RecOk.top (h : RecOk ns mb) (v : List Val) : encTop (recF ns mb) v = encL 4 (recF ns mb) v := if_pos h.most
theorem RecOk.some (h : RecOk ns mb) {xs : List Nat} {bo : Option (List UInt8)} (h1 : inNs ns xs) (h2 : inBs mb bo) : ∃ p, encTop (recF ns mb) (recV xs bo) = some p := by
  have hl : (recF ns mb).length = (recV xs bo).length := by
    rw [recF_len, recV_len, inNs_len h1]
    cases mb <;> cases bo <;> first | rfl | exact h2.elim
  have e : encL 4 (recF ns mb) (recV xs bo) = catO (List.zipWith (encOne (encL 3)) (recF ns mb) (recV xs bo)) := if_pos hl
  rw [h.top, e]
  exact Option.isSome_iff_exists.1 (rec_catO ns mb xs bo h1 h2)
theorem RecOk.shape (h : RecOk ns mb) {v : List Val} {p : List UInt8} (he : encTop (recF ns mb) v = Option.some p) : ∃ xs bo, v = recV xs bo ∧ inNs ns xs ∧ inBs mb bo := by
  rw [h.top] at he
  have he : (if (recF ns mb).length = v.length then catO (List.zipWith (encOne (encL 3)) (recF ns mb) v) else none) = Option.some p := he
  split at he
  · exact rec_zip ns mb v p (by assumption) he
  · cases he
theorem RecOk.len (h : RecOk ns mb) {v : List Val} {p : List UInt8} (he : encTop (recF ns mb) v = Option.some p) : p.length ≤ 1048576 := by
  rw [h.top] at he
  obtain ⟨m, hm⟩ := Option.isSome_iff_exists.1 h.most
  exact Nat.le_trans (encL_len 4 _ m v p hm he) (mostL_le hm)
theorem RecOk.back (h : RecOk ns mb) {v : List Val} {p : List UInt8} (he : encTop (recF ns mb) v = Option.some p) : decTop (recF ns mb) p = .ok v := by
  rw [h.top] at he
  obtain ⟨m, hm⟩ := Option.isSome_iff_exists.1 h.most
  have hd := decL_dec 4 _ m hm (rec_wf ns mb h.nums h.byts) v p [] he
  rw [List.append_nil] at hd
  unfold decTop
  rw [if_pos h.most, hd]
theorem RecOk.dec (h : RecOk ns mb) {s : List UInt8} {v : List Val} (hd : decTop (recF ns mb) s = .ok v) : ∃ xs bo, v = recV xs bo ∧ inNs ns xs ∧ inBs mb bo ∧ encTop (recF ns mb) (recV xs bo) = Option.some s := by
  obtain ⟨m, hm⟩ := Option.isSome_iff_exists.1 h.most
  unfold decTop at hd
  rw [if_pos h.most] at hd
  have hd : (match decL 4 (recF ns mb) s with
      | Option.some (v, []) => Except.ok v
      | _ => .error (2 : Int)) = .ok v := hd
  split at hd
  · rename_i v0 he
    cases hd
    obtain ⟨p, hp, hs⟩ := decL_enc 4 _ m hm s v [] he
    rw [List.append_nil] at hs
    subst hs
    have he : encTop (recF ns mb) v = Option.some s := by rw [h.top]; exact hp
    obtain ⟨xs, bo, rfl, h1, h2⟩ := h.shape he
    exact ⟨xs, bo, rfl, h1, h2, he⟩
  · cases hd
theorem RecOk.err (h : RecOk ns mb) {s : List UInt8} {c : Int} (hd : decTop (recF ns mb) s = .error c) : c = 2 ∧ ∀ v, encTop (recF ns mb) v ≠ Option.some s := by
  refine ⟨?_, fun v he => by rw [h.back he] at hd; cases hd⟩
  unfold decTop at hd
  rw [if_pos h.most] at hd
  have hd : (match decL 4 (recF ns mb) s with
      | Option.some (v, []) => Except.ok v
      | _ => .error (2 : Int)) = .error c := hd
  split at hd
  · cases hd
  · cases hd; rfl
theorem recV_inj : ∀ {xs ys : List Nat} {bo co : Option (List UInt8)}, xs.length = ys.length → recV xs bo = recV ys co → xs = ys ∧ bo = co
  | [], [], none, none, _, _ => ⟨rfl, rfl⟩
  | [], [], some b, some c, _, h => by
    have h : [Val.mk 0 b []] = [Val.mk 0 c []] := h
    cases h
    exact ⟨rfl, rfl⟩
  | [], [], none, some _, _, h => by cases h
  | [], [], some _, none, _, h => by cases h
  | [], _ :: _, _, _, h, _ => by cases h
  | _ :: _, [], _, _, h, _ => by cases h
  | x :: xs, y :: ys, bo, co, hl, h => by
    have h : Val.mk x [] [] :: recV xs bo = Val.mk y [] [] :: recV ys co := h
    injection h with h1 h2
    obtain ⟨rfl, rfl⟩ := recV_inj (by simpa using hl) h2
    cases h1
    exact ⟨rfl, rfl⟩
end Go.Proofs.Ytgfcindkfnjeoaa
