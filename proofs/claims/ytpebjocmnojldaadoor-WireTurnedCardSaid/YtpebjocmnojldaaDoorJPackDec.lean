/-
  What is proved here: how a record is read off bytes, plain: what was encoded is read as it was, and what is read, encoded, is the bytes that were read.
  Conditions: the fields may be, and bounds of fields have 64 bits.
-/
import Derived.Test.YtpebjocmnojldaaDoorJPackInj
namespace Go.Proofs.YtpebjocmnojldaaDoor

/-- The number of bytes, the lowest first. -/
def leVal : List UInt8 → Nat
  | [] => 0
  | b :: r => b.toNat + 256 * leVal r
theorem leVal_leN : ∀ (k n : Nat), n < 256 ^ k → leVal (leN n k) = n
  | 0, n, h => by simp at h; subst h; rfl
  | k + 1, n, h => by
    rw [Nat.pow_succ] at h
    simp only [leN, leVal]
    rw [leVal_leN k (n / 256) (by omega)]
    have e : (UInt8.ofNat (n % 256)).toNat = n % 256 % 256 := by simp
    rw [e]
    omega
theorem leN_leVal : ∀ s : List UInt8, leN (leVal s) s.length = s
  | [] => rfl
  | b :: r => by
    have hb := b.toNat_lt
    simp only [leVal, List.length_cons, leN]
    have h1 : (b.toNat + 256 * leVal r) % 256 = b.toNat := by omega
    have h2 : (b.toNat + 256 * leVal r) / 256 = leVal r := by omega
    rw [h1, h2, leN_leVal r]
    simp
/-- What a field's bounds speak of, read off the front. -/
def amtD (f : Fld) (s : List UInt8) : Option (Nat × List UInt8) :=
  if wid (f.max - f.min) ≤ s.length then (if f.max - f.min < leVal (s.take (wid (f.max - f.min))) then none else some (f.min + leVal (s.take (wid (f.max - f.min))), s.drop (wid (f.max - f.min)))) else none
def manyD {α : Type} (D : List UInt8 → Option (α × List UInt8)) : Nat → List UInt8 → Option (List α × List UInt8)
  | 0, s => some ([], s)
  | n + 1, s => (D s).bind fun p => (manyD D n p.2).map fun q => (p.1 :: q.1, q.2)
def oneD (D : List Fld → List UInt8 → Option (List Val × List UInt8)) (f : Fld) (s : List UInt8) : Option (Val × List UInt8) :=
  (amtD f s).bind fun p =>
    if f.kind = 1 then some (.mk p.1 [] [], p.2)
    else if f.kind = 2 then (if p.1 ≤ p.2.length then some (.mk 0 (p.2.take p.1) [], p.2.drop p.1) else none)
    else (manyD (D f.of) p.1 p.2).map fun q => (.mk 0 [] q.1, q.2)
def seqD (D : Fld → List UInt8 → Option (Val × List UInt8)) : List Fld → List UInt8 → Option (List Val × List UInt8)
  | [], s => some ([], s)
  | f :: l, s => (D f s).bind fun p => (seqD D l p.2).map fun q => (p.1 :: q.1, q.2)
/-- A record read off the front of bytes, and what is left of them; none: it is none. -/
def decL : Nat → List Fld → List UInt8 → Option (List Val × List UInt8)
  | 0, _, _ => none
  | r + 1, l, s => seqD (oneD (decL r)) l s

theorem amtD_enc {f : Fld} {s t : List UInt8} {n : Nat} (h : amtD f s = some (n, t)) (hm : f.min ≤ f.max) : f.min ≤ n ∧ n ≤ f.max ∧ s = leN (n - f.min) (wid (f.max - f.min)) ++ t := by
  unfold amtD at h
  split at h
  · rename_i hl
    split at h
    · cases h
    · simp only [Option.some.injEq, Prod.mk.injEq] at h
      obtain ⟨rfl, rfl⟩ := h
      refine ⟨by omega, by omega, ?_⟩
      rw [Nat.add_sub_cancel_left]
      have e : leN (leVal (s.take (wid (f.max - f.min)))) (wid (f.max - f.min)) = s.take (wid (f.max - f.min)) := by
        have := leN_leVal (s.take (wid (f.max - f.min)))
        rwa [List.length_take, Nat.min_eq_left hl] at this
      rw [e, List.take_append_drop]
  · cases h
theorem amtD_dec {f : Fld} {t : List UInt8} {n : Nat} (h1 : f.min ≤ n) (h2 : n ≤ f.max) (hf : f.max < 18446744073709551616) : amtD f (leN (n - f.min) (wid (f.max - f.min)) ++ t) = some (n, t) := by
  have hw := wid_lt (f.max - f.min) (by omega)
  have hl := leN_len (n - f.min) (wid (f.max - f.min))
  unfold amtD
  rw [if_pos (by rw [List.length_append, hl]; omega), List.take_left' hl, List.drop_left' hl, leVal_leN _ _ (by omega), if_neg (by omega)]
  congr 2
  omega
theorem manyD_enc {D : List UInt8 → Option (List Val × List UInt8)} {E : List Val → Option (List UInt8)} (hD : ∀ s v t, D s = some (v, t) → ∃ p, E v = some p ∧ s = p ++ t) : ∀ (n : Nat) (s t : List UInt8) (L : List (List Val)), manyD D n s = some (L, t) → L.length = n ∧ ∃ p, catO (L.map E) = some p ∧ s = p ++ t
  | 0, s, t, L, h => by
    simp only [manyD, Option.some.injEq, Prod.mk.injEq] at h
    obtain ⟨rfl, rfl⟩ := h
    exact ⟨rfl, [], rfl, rfl⟩
  | n + 1, s, t, L, h => by
    simp only [manyD] at h
    obtain ⟨⟨v, s1⟩, h1, h2⟩ := Option.bind_eq_some_iff.1 h
    obtain ⟨⟨L', t'⟩, h3, h4⟩ := Option.map_eq_some_iff.1 h2
    simp only [Prod.mk.injEq] at h4
    obtain ⟨rfl, rfl⟩ := h4
    obtain ⟨p, hp, rfl⟩ := hD _ _ _ h1
    obtain ⟨hl, q, hq, hs⟩ := manyD_enc hD n s1 t' L' h3
    refine ⟨by simp [hl], p ++ q, ?_, by rw [hs, List.append_assoc]⟩
    simp only [List.map_cons, hp, catO, hq, Option.map_some]
theorem manyD_dec {D : List UInt8 → Option (List Val × List UInt8)} {E : List Val → Option (List UInt8)} (hD : ∀ v p t, E v = some p → D (p ++ t) = some (v, t)) : ∀ (L : List (List Val)) (p t : List UInt8), catO (L.map E) = some p → manyD D L.length (p ++ t) = some (L, t)
  | [], p, t, h => by
    simp [catO] at h
    subst h
    rfl
  | v :: L, p, t, h => by
    simp only [List.map_cons] at h
    cases hv : E v with
    | none => rw [hv] at h; simp [catO] at h
    | some a =>
      rw [hv] at h
      simp only [catO] at h
      obtain ⟨q, hq, rfl⟩ := Option.map_eq_some_iff.1 h
      simp only [List.length_cons, manyD]
      rw [List.append_assoc, hD v a _ hv, Option.bind_some, manyD_dec hD L q t hq]
      rfl
theorem oneD_enc {D : List Fld → List UInt8 → Option (List Val × List UInt8)} {E : List Fld → List Val → Option (List UInt8)} {M : List Fld → Option Nat} {f : Fld} {a0 : Nat} (hm : mostOne M f = some a0) (hD : ∀ k, M f.of = some k → ∀ s v t, D f.of s = some (v, t) → ∃ p, E f.of v = some p ∧ s = p ++ t) {s t : List UInt8} {x : Val} (h : oneD D f s = some (x, t)) : ∃ p, encOne E f x = some p ∧ s = p ++ t := by
  obtain ⟨⟨n, s1⟩, h1, h2⟩ := Option.bind_eq_some_iff.1 h
  obtain ⟨g1, g2, rfl⟩ := amtD_enc h1 (mostOne_le' hm)
  simp only at h2
  have key : ∀ r, amountOf f x = some n → catO (x.l.map (E f.of)) = some r → x.b ++ r ++ t = s1 → ∃ p, encOne E f x = some p ∧ leN (n - f.min) (wid (f.max - f.min)) ++ s1 = p ++ t := fun r ha hr hs => by
    refine ⟨leN (n - f.min) (wid (f.max - f.min)) ++ (x.b ++ r), ?_, by rw [← hs]; simp⟩
    unfold encOne
    rw [ha]
    simp only
    rw [if_neg (by omega), hr]
    rfl
  by_cases k1 : f.kind = 1
  · rw [if_pos k1] at h2
    simp only [Option.some.injEq, Prod.mk.injEq] at h2
    obtain ⟨rfl, rfl⟩ := h2
    exact key [] (by unfold amountOf; simp [k1, Val.b, Val.l, Val.n]) (by simp [Val.l, catO]) (by simp [Val.b])
  rw [if_neg k1] at h2
  by_cases k2 : f.kind = 2
  · rw [if_pos k2] at h2
    split at h2
    · rename_i hl
      simp only [Option.some.injEq, Prod.mk.injEq] at h2
      obtain ⟨rfl, rfl⟩ := h2
      exact key [] (by unfold amountOf; simp [k2, Val.b, Val.l, Val.n]; omega) (by simp [Val.l, catO]) (by simp [Val.b])
    · cases h2
  rw [if_neg k2] at h2
  obtain ⟨k3, k, hk, _⟩ := mostOne_of hm k1 k2
  obtain ⟨⟨L, t'⟩, h3, h4⟩ := Option.map_eq_some_iff.1 h2
  simp only [Prod.mk.injEq] at h4
  obtain ⟨rfl, rfl⟩ := h4
  obtain ⟨hl, q, hq, hs⟩ := manyD_enc (hD k hk) n s1 t' L h3
  exact key q (by unfold amountOf; simp [k3, Val.b, Val.l, Val.n]; exact hl) (by simpa [Val.l] using hq) (by simp [Val.b, hs])
theorem oneD_dec {D : List Fld → List UInt8 → Option (List Val × List UInt8)} {E : List Fld → List Val → Option (List UInt8)} {M : List Fld → Option Nat} {f : Fld} {a0 : Nat} (hm : mostOne M f = some a0) (hf : f.max < 18446744073709551616) (hD : ∀ k, M f.of = some k → ∀ v p t, E f.of v = some p → D f.of (p ++ t) = some (v, t)) {p t : List UInt8} {x : Val} (h : encOne E f x = some p) : oneD D f (p ++ t) = some (x, t) := by
  obtain ⟨n, r, ha, g1, g2, hr, rfl⟩ := encOne_split h
  obtain ⟨A1, A2, A3⟩ := amountOf_facts ha
  unfold oneD
  rw [List.append_assoc, amtD_dec g1 g2 hf, Option.bind_some]
  simp only
  by_cases k1 : f.kind = 1
  · obtain ⟨z1, z2, z3⟩ := A1 k1
    have l1 := nil_of z2
    have b1 := nil_of z1
    rw [l1] at hr
    simp [catO] at hr
    subst hr
    rw [if_pos k1, b1]
    congr 2
    exact val_ext z3 b1.symm l1.symm
  rw [if_neg k1]
  by_cases k2 : f.kind = 2
  · obtain ⟨z1, z2, z3⟩ := A2 k2
    have l1 := nil_of z2
    rw [l1] at hr
    simp [catO] at hr
    subst hr
    rw [if_pos k2, List.append_nil, if_pos (by simp; omega), List.take_left' z3.symm, List.drop_left' z3.symm]
    congr 2
    exact val_ext z1.symm rfl l1.symm
  obtain ⟨z1, z2, z3⟩ := A3 k1 k2
  have b1 := nil_of z2
  obtain ⟨k3, k, hk, _⟩ := mostOne_of hm k1 k2
  rw [if_neg k2, b1, List.nil_append, z3, manyD_dec (hD k hk) x.l r t hr, Option.map_some]
  congr 2
  exact val_ext z1.symm b1.symm rfl
theorem seqD_enc {D : List Fld → List UInt8 → Option (List Val × List UInt8)} {E : List Fld → List Val → Option (List UInt8)} {M : List Fld → Option Nat} (hD : ∀ l k, M l = some k → ∀ s v t, D l s = some (v, t) → ∃ p, E l v = some p ∧ s = p ++ t) : ∀ (l : List Fld) (S : Nat) (v : List Val) (s t : List UInt8), mostSum M l = some S → seqD (oneD D) l s = some (v, t) → l.length = v.length ∧ ∃ p, catO (List.zipWith (encOne E) l v) = some p ∧ s = p ++ t
  | [], S, v, s, t, _, h => by
    simp only [seqD, Option.some.injEq, Prod.mk.injEq] at h
    obtain ⟨rfl, rfl⟩ := h
    exact ⟨rfl, [], rfl, rfl⟩
  | f :: l, S, v, s, t, hS, h => by
    unfold mostSum at hS
    cases hm : mostOne M f with
    | none => rw [hm] at hS; cases hS
    | some a0 =>
      rw [hm] at hS
      obtain ⟨S', hS', _⟩ := Option.map_eq_some_iff.1 hS
      simp only [seqD] at h
      obtain ⟨⟨x, s1⟩, h1, h2⟩ := Option.bind_eq_some_iff.1 h
      obtain ⟨⟨v', t'⟩, h3, h4⟩ := Option.map_eq_some_iff.1 h2
      simp only [Prod.mk.injEq] at h4
      obtain ⟨rfl, rfl⟩ := h4
      obtain ⟨p, hp, rfl⟩ := oneD_enc (E := E) hm (fun k hk => hD f.of k hk) h1
      obtain ⟨hl, q, hq, hs⟩ := seqD_enc hD l S' v' s1 t' hS' h3
      refine ⟨by simp [hl], p ++ q, ?_, by rw [hs, List.append_assoc]⟩
      rw [List.zipWith_cons_cons, hp]
      simp only [catO, hq, Option.map_some]
theorem seqD_dec {D : List Fld → List UInt8 → Option (List Val × List UInt8)} {E : List Fld → List Val → Option (List UInt8)} {M : List Fld → Option Nat} (P : List Fld → Prop) (hD : ∀ l k, M l = some k → P l → ∀ v p t, E l v = some p → D l (p ++ t) = some (v, t)) : ∀ (l : List Fld) (S : Nat) (v : List Val) (p t : List UInt8), mostSum M l = some S → (∀ f ∈ l, f.max < 18446744073709551616 ∧ P f.of) → l.length = v.length → catO (List.zipWith (encOne E) l v) = some p → seqD (oneD D) l (p ++ t) = some (v, t)
  | [], S, v, p, t, _, _, hv, h => by
    have e1 : v = [] := nil_of (by simpa using hv.symm)
    simp [catO] at h
    subst h
    rw [e1]
    rfl
  | f :: l, S, [], _, _, _, _, hv, _ => by simp at hv
  | f :: l, S, x :: v, p, t, hS, hw, hv, h => by
    rw [List.zipWith_cons_cons] at h
    unfold mostSum at hS
    cases hm : mostOne M f with
    | none => rw [hm] at hS; cases hS
    | some a0 =>
      rw [hm] at hS
      obtain ⟨S', hS', _⟩ := Option.map_eq_some_iff.1 hS
      cases hx : encOne E f x with
      | none => rw [hx] at h; simp [catO] at h
      | some a =>
        rw [hx] at h
        simp only [catO] at h
        obtain ⟨q, hq, rfl⟩ := Option.map_eq_some_iff.1 h
        have hwf := hw f (by simp)
        simp only [seqD]
        rw [List.append_assoc, oneD_dec hm hwf.1 (fun k hk => hD f.of k hk hwf.2) hx, Option.bind_some, seqD_dec P hD l S' v q t hS' (fun g hg => hw g (by simp [hg])) (by simpa using hv) hq]
        rfl
/-- What is read, encoded, is the bytes that were read. -/
theorem decL_enc : ∀ (r : Nat) (l : List Fld) (k : Nat), mostL r l = some k → ∀ (s : List UInt8) (v : List Val) (t : List UInt8), decL r l s = some (v, t) → ∃ p, encL r l v = some p ∧ s = p ++ t
  | 0, _, _, h, _, _, _, _ => by simp [mostL] at h
  | r + 1, l, k, h, s, v, t, hd => by
    obtain ⟨hS, _⟩ := mostL_succ h
    obtain ⟨hl, p, hp, hs⟩ := seqD_enc (E := encL r) (fun l k hk s v t h => decL_enc r l k hk s v t h) l k v s t hS hd
    exact ⟨p, by unfold encL; rw [if_pos hl]; exact hp, hs⟩
/-- What was encoded is read as it was. -/
theorem decL_dec : ∀ (r : Nat) (l : List Fld) (k : Nat), mostL r l = some k → Fwf r l → ∀ (v : List Val) (p t : List UInt8), encL r l v = some p → decL r l (p ++ t) = some (v, t)
  | 0, _, _, h, _, _, _, _, _ => by simp [mostL] at h
  | r + 1, l, k, h, hw, v, p, t, he => by
    obtain ⟨hS, _⟩ := mostL_succ h
    unfold encL at he
    split at he
    · exact seqD_dec (Fwf r) (fun l k hk hP v p t h => decL_dec r l k hk hP v p t h) l k v p t hS hw (by assumption) he
    · cases he

/-- One more of many. -/
theorem manyD_snoc {α : Type} (D : List UInt8 → Option (α × List UInt8)) : ∀ (n : Nat) (s : List UInt8), manyD D (n + 1) s = (manyD D n s).bind fun q => (D q.2).map fun p => (q.1 ++ [p.1], p.2)
  | 0, s => by simp only [manyD, Option.bind_some, List.nil_append]; cases D s <;> rfl
  | n + 1, s => by
    show ((D s).bind fun p => (manyD D (n + 1) p.2).map fun q => (p.1 :: q.1, q.2)) = ((D s).bind fun p => (manyD D n p.2).map fun q => (p.1 :: q.1, q.2)).bind _
    cases D s with
    | none => rfl
    | some p =>
      simp only [Option.bind_some]
      rw [manyD_snoc D n]
      cases manyD D n p.2 with
      | none => rfl
      | some q =>
        simp only [Option.bind_some, Option.map_some]
        cases D q.2 <;> rfl
theorem manyD_none {α : Type} (D : List UInt8 → Option (α × List UInt8)) (s : List UInt8) {k n : Nat} (hk : k ≤ n) (h : manyD D k s = none) : manyD D n s = none := by
  induction n with
  | zero => rw [Nat.le_zero.1 hk] at h; exact h
  | succ n ih =>
    rcases Nat.lt_or_ge k (n + 1) with h1 | h1
    · rw [manyD_snoc, ih (by omega)]; rfl
    · rw [← Nat.le_antisymm hk h1]; exact h
theorem seqD_append (D : Fld → List UInt8 → Option (Val × List UInt8)) : ∀ (a b : List Fld) (s : List UInt8), seqD D (a ++ b) s = (seqD D a s).bind fun q => (seqD D b q.2).map fun p => (q.1 ++ p.1, p.2)
  | [], b, s => by simp [seqD]
  | f :: a, b, s => by
    simp only [List.cons_append, seqD, seqD_append D a b]
    cases D f s with
    | none => rfl
    | some p =>
      simp only [Option.bind_some]
      cases seqD D a p.2 with
      | none => rfl
      | some q =>
        simp only [Option.bind_some, Option.map_some]
        cases seqD D b q.2 <;> rfl
theorem seqD_snoc (D : Fld → List UInt8 → Option (Val × List UInt8)) (l : List Fld) (I : Nat) (f : Fld) (hf : l[I]? = some f) (s : List UInt8) : seqD D (l.take (I + 1)) s = (seqD D (l.take I) s).bind fun q => (D f q.2).map fun p => (q.1 ++ [p.1], p.2) := by
  rw [List.take_add_one, hf, seqD_append]
  congr
  funext q
  simp only [Option.toList_some, seqD, Option.map_some]
  cases D f q.2 <;> rfl
theorem seqD_none (D : Fld → List UInt8 → Option (Val × List UInt8)) (l : List Fld) (I : Nat) (s : List UInt8) (h : seqD D (l.take I) s = none) : seqD D l s = none := by
  rw [← List.take_append_drop I l, seqD_append, h]
  rfl
end Go.Proofs.YtpebjocmnojldaaDoor
