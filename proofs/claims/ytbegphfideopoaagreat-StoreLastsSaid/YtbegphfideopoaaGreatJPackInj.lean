/-
  What is proved here: bytes of a record tell the record: of two unlike records of the same fields none's bytes are the beginning of the other's. how a record is read off bytes, plain: what was encoded is read as it was, and what is read, encoded, is the bytes that were read. small facts on slices of bytes that several texts share: the empty one of the call's own, a slice's form, its beginning. pack's reader takes bytes off the front of what is left. pack's reader takes what a field's bounds speak of.
  Conditions: bounds of fields have 64 bits. the fields may be, and bounds of fields have 64 bits. those that each fact names.
-/
import Derived.Test.YtbegphfideopoaaGreatJPackWorld
import Derived.Test.YtbegphfideopoaaGreatJShaPure
namespace Go.Proofs.YtbegphfideopoaaGreat

/-- All bounds have 64 bits, so many lists deep. -/
def Fwf : Nat → List Fld → Prop
  | 0, _ => True
  | r + 1, l => ∀ f ∈ l, f.max < 18446744073709551616 ∧ Fwf r f.of
theorem wid_lt (n : Nat) (h : n < 18446744073709551616) : n < 256 ^ wid n := by
  unfold wid
  split
  · omega
  split
  · omega
  split
  · omega
  split
  · omega
  split
  · omega
  split
  · omega
  split
  · omega
  · omega
theorem leN_inj : ∀ (k n m : Nat) (s t : List UInt8), n < 256 ^ k → m < 256 ^ k → leN n k ++ s = leN m k ++ t → n = m ∧ s = t
  | 0, n, m, s, t, h1, h2, h => by
    simp [leN] at h
    exact ⟨by omega, h⟩
  | k + 1, n, m, s, t, h1, h2, h => by
    simp only [leN, List.cons_append, List.cons.injEq] at h
    rw [Nat.pow_succ] at h1 h2
    obtain ⟨h3, h4⟩ := h
    obtain ⟨h5, h6⟩ := leN_inj k (n / 256) (m / 256) s t (by omega) (by omega) h4
    have e : (UInt8.ofNat (n % 256)).toNat = (UInt8.ofNat (m % 256)).toNat := by rw [h3]
    have e1 : ∀ z : Nat, (UInt8.ofNat (z % 256)).toNat = z % 256 % 256 := fun z => by simp
    rw [e1, e1] at e
    exact ⟨by omega, h6⟩
theorem catO_inj {E : List Val → Option (List UInt8)} (hE : ∀ a b p q s t, E a = some p → E b = some q → p ++ s = q ++ t → a = b ∧ s = t) : ∀ (A B : List (List Val)) (p q s t : List UInt8), A.length = B.length → catO (A.map E) = some p → catO (B.map E) = some q → p ++ s = q ++ t → A = B ∧ s = t
  | [], [], p, q, s, t, _, hp, hq, h => by
    simp [catO] at hp hq
    subst hp
    subst hq
    exact ⟨rfl, by simpa using h⟩
  | [], _ :: _, _, _, _, _, h, _, _, _ => by simp at h
  | _ :: _, [], _, _, _, _, h, _, _, _ => by simp at h
  | a :: A, b :: B, p, q, s, t, hl, hp, hq, h => by
    simp only [List.map_cons] at hp hq
    cases ha : E a with
    | none => rw [ha] at hp; simp [catO] at hp
    | some pa =>
      cases hb : E b with
      | none => rw [hb] at hq; simp [catO] at hq
      | some qb =>
        rw [ha] at hp
        rw [hb] at hq
        simp only [catO] at hp hq
        obtain ⟨p', hp', rfl⟩ := Option.map_eq_some_iff.1 hp
        obtain ⟨q', hq', rfl⟩ := Option.map_eq_some_iff.1 hq
        rw [List.append_assoc, List.append_assoc] at h
        obtain ⟨e1, h2⟩ := hE a b pa qb _ _ ha hb h
        obtain ⟨e2, e3⟩ := catO_inj hE A B p' q' s t (by simpa using hl) hp' hq' h2
        exact ⟨by rw [e1, e2], e3⟩
theorem encOne_split {E : List Fld → List Val → Option (List UInt8)} {f : Fld} {x : Val} {p : List UInt8} (h : encOne E f x = some p) : ∃ n r, amountOf f x = some n ∧ f.min ≤ n ∧ n ≤ f.max ∧ catO (x.l.map (E f.of)) = some r ∧ p = leN (n - f.min) (wid (f.max - f.min)) ++ (x.b ++ r) := by
  unfold encOne at h
  split at h
  · cases h
  · rename_i n hn
    split at h
    · cases h
    · obtain ⟨r, hr, rfl⟩ := Option.map_eq_some_iff.1 h
      exact ⟨n, r, hn, by omega, by omega, hr, rfl⟩
theorem val_ext {x y : Val} (h1 : x.n = y.n) (h2 : x.b = y.b) (h3 : x.l = y.l) : x = y := by
  obtain ⟨a, b, c⟩ := x
  obtain ⟨d, e, f⟩ := y
  simp only [Val.n, Val.b, Val.l] at h1 h2 h3
  rw [h1, h2, h3]
theorem nil_of {α : Type} {l : List α} (h : l.length = 0) : l = [] := List.length_eq_zero_iff.1 h
theorem encOne_inj {E : List Fld → List Val → Option (List UInt8)} {M : List Fld → Option Nat} {f : Fld} {a0 : Nat} (hm : mostOne M f = some a0) (hf : f.max < 18446744073709551616) (hE : ∀ k, M f.of = some k → ∀ a b p q s t, E f.of a = some p → E f.of b = some q → p ++ s = q ++ t → a = b ∧ s = t) (x y : Val) (p q s t : List UInt8)
    (hp : encOne E f x = some p) (hq : encOne E f y = some q) (h : p ++ s = q ++ t) : x = y ∧ s = t := by
  obtain ⟨n, r, ha, hn1, hn2, hr, rfl⟩ := encOne_split hp
  obtain ⟨m, r', ha', hm1, hm2, hr', rfl⟩ := encOne_split hq
  have hw := wid_lt (f.max - f.min) (by omega)
  simp only [List.append_assoc] at h
  obtain ⟨e1, h2⟩ := leN_inj _ _ _ _ _ (Nat.lt_of_le_of_lt (show n - f.min ≤ f.max - f.min by omega) hw) (Nat.lt_of_le_of_lt (show m - f.min ≤ f.max - f.min by omega) hw) h
  have e2 : n = m := by omega
  subst e2
  obtain ⟨A1, A2, A3⟩ := amountOf_facts ha
  obtain ⟨B1, B2, B3⟩ := amountOf_facts ha'
  by_cases hk1 : f.kind = 1
  · obtain ⟨z1, z2, z3⟩ := A1 hk1
    obtain ⟨y1, y2, y3⟩ := B1 hk1
    have l1 := nil_of z2
    have l2 := nil_of y2
    have b1 := nil_of z1
    have b2 := nil_of y1
    rw [l1] at hr
    rw [l2] at hr'
    simp [catO] at hr hr'
    subst hr
    subst hr'
    rw [b1, b2] at h2
    exact ⟨val_ext (by omega) (by rw [b1, b2]) (by rw [l1, l2]), by simpa using h2⟩
  by_cases hk2 : f.kind = 2
  · obtain ⟨z1, z2, z3⟩ := A2 hk2
    obtain ⟨y1, y2, y3⟩ := B2 hk2
    have l1 := nil_of z2
    have l2 := nil_of y2
    rw [l1] at hr
    rw [l2] at hr'
    simp [catO] at hr hr'
    subst hr
    subst hr'
    simp only [List.nil_append] at h2
    obtain ⟨b, e⟩ := List.append_inj h2 (by omega)
    exact ⟨val_ext (by omega) b (by rw [l1, l2]), e⟩
  · obtain ⟨z1, z2, z3⟩ := A3 hk1 hk2
    obtain ⟨y1, y2, y3⟩ := B3 hk1 hk2
    have b1 := nil_of z2
    have b2 := nil_of y2
    obtain ⟨_, k, hk, _⟩ := mostOne_of hm hk1 hk2
    rw [b1, b2, List.nil_append, List.nil_append] at h2
    obtain ⟨e3, e4⟩ := catO_inj (hE k hk) x.l y.l r r' s t (by omega) hr hr' h2
    exact ⟨val_ext (by omega) (by rw [b1, b2]) e3, e4⟩
theorem zip_inj {E : List Fld → List Val → Option (List UInt8)} {M : List Fld → Option Nat} (P : List Fld → Prop) (hE : ∀ l k, M l = some k → P l → ∀ a b p q s t, E l a = some p → E l b = some q → p ++ s = q ++ t → a = b ∧ s = t) : ∀ (l : List Fld) (S : Nat) (v u : List Val) (p q s t : List UInt8), mostSum M l = some S → (∀ f ∈ l, f.max < 18446744073709551616 ∧ P f.of) → l.length = v.length → l.length = u.length → catO (List.zipWith (encOne E) l v) = some p → catO (List.zipWith (encOne E) l u) = some q → p ++ s = q ++ t → v = u ∧ s = t
  | [], S, v, u, p, q, s, t, _, _, hv, hu, hp, hq, h => by
    have e1 : v = [] := nil_of (by simpa using hv.symm)
    have e2 : u = [] := nil_of (by simpa using hu.symm)
    simp [catO] at hp hq
    subst hp
    subst hq
    exact ⟨by rw [e1, e2], by simpa using h⟩
  | f :: l, S, [], _, _, _, _, _, _, _, hv, _, _, _, _ => by simp at hv
  | f :: l, S, _ :: _, [], _, _, _, _, _, _, _, hu, _, _, _ => by simp at hu
  | f :: l, S, x :: v, y :: u, p, q, s, t, hS, hw, hv, hu, hp, hq, h => by
    rw [List.zipWith_cons_cons] at hp hq
    unfold mostSum at hS
    cases hm : mostOne M f with
    | none => rw [hm] at hS; cases hS
    | some a0 =>
      rw [hm] at hS
      obtain ⟨S', hS', _⟩ := Option.map_eq_some_iff.1 hS
      cases hx : encOne E f x with
      | none => rw [hx] at hp; simp [catO] at hp
      | some pa =>
        cases hy : encOne E f y with
        | none => rw [hy] at hq; simp [catO] at hq
        | some qb =>
          rw [hx] at hp
          rw [hy] at hq
          simp only [catO] at hp hq
          obtain ⟨p', hp', rfl⟩ := Option.map_eq_some_iff.1 hp
          obtain ⟨q', hq', rfl⟩ := Option.map_eq_some_iff.1 hq
          rw [List.append_assoc, List.append_assoc] at h
          have hwf := hw f (by simp)
          obtain ⟨e1, h2⟩ := encOne_inj hm hwf.1 (fun k hk => hE f.of k hk hwf.2) x y pa qb _ _ hx hy h
          obtain ⟨e2, e3⟩ := zip_inj P hE l S' v u p' q' s t hS' (fun g hg => hw g (by simp [hg])) (by simpa using hv) (by simpa using hu) hp' hq' h2
          exact ⟨by rw [e1, e2], e3⟩
theorem encL_inj : ∀ (r : Nat) (l : List Fld) (k : Nat), mostL r l = some k → Fwf r l → ∀ (v u : List Val) (p q s t : List UInt8), encL r l v = some p → encL r l u = some q → p ++ s = q ++ t → v = u ∧ s = t
  | 0, _, _, h, _, _, _, _, _, _, _, _, _, _ => by simp [mostL] at h
  | r + 1, l, k, h, hw, v, u, p, q, s, t, hp, hq, he => by
    obtain ⟨hS, _⟩ := mostL_succ h
    unfold encL at hp hq
    split at hp
    · split at hq
      · exact zip_inj (Fwf r) (fun l k hk hP a b p q s t h1 h2 h3 => encL_inj r l k hk hP a b p q s t h1 h2 h3) l k v u p q s t hS hw (by assumption) (by assumption) hp hq he
      · cases hq
    · cases hp
end Go.Proofs.YtbegphfideopoaaGreat
namespace Go.Proofs.YtbegphfideopoaaGreat

/-- The number of bytes, the lowest first. -/
def leVal : List UInt8 → Nat
  | [] => 0
  | b :: r => b.toNat + 256 * leVal r
theorem leVal_leN : ∀ (k n : Nat), n < 256 ^ k → leVal (leN n k) = n
  | 0, n, h => by simp at h; subst h; rfl
  | k + 1, n, h => by
    rw [Nat.pow_succ] at h
    simp only [leN, leVal]
    rw [leVal_leN k (n / 256) (by omega)]
    have e : (UInt8.ofNat (n % 256)).toNat = n % 256 % 256 := by simp
    rw [e]
    omega
theorem leN_leVal : ∀ s : List UInt8, leN (leVal s) s.length = s
  | [] => rfl
  | b :: r => by
    have hb := b.toNat_lt
    simp only [leVal, List.length_cons, leN]
    have h1 : (b.toNat + 256 * leVal r) % 256 = b.toNat := by omega
    have h2 : (b.toNat + 256 * leVal r) / 256 = leVal r := by omega
    rw [h1, h2, leN_leVal r]
    simp
/-- What a field's bounds speak of, read off the front. -/
def amtD (f : Fld) (s : List UInt8) : Option (Nat × List UInt8) :=
  if wid (f.max - f.min) ≤ s.length then (if f.max - f.min < leVal (s.take (wid (f.max - f.min))) then none else some (f.min + leVal (s.take (wid (f.max - f.min))), s.drop (wid (f.max - f.min)))) else none
def manyD {α : Type} (D : List UInt8 → Option (α × List UInt8)) : Nat → List UInt8 → Option (List α × List UInt8)
  | 0, s => some ([], s)
  | n + 1, s => (D s).bind fun p => (manyD D n p.2).map fun q => (p.1 :: q.1, q.2)
def oneD (D : List Fld → List UInt8 → Option (List Val × List UInt8)) (f : Fld) (s : List UInt8) : Option (Val × List UInt8) :=
  (amtD f s).bind fun p =>
    if f.kind = 1 then some (.mk p.1 [] [], p.2)
    else if f.kind = 2 then (if p.1 ≤ p.2.length then some (.mk 0 (p.2.take p.1) [], p.2.drop p.1) else none)
    else (manyD (D f.of) p.1 p.2).map fun q => (.mk 0 [] q.1, q.2)
def seqD (D : Fld → List UInt8 → Option (Val × List UInt8)) : List Fld → List UInt8 → Option (List Val × List UInt8)
  | [], s => some ([], s)
  | f :: l, s => (D f s).bind fun p => (seqD D l p.2).map fun q => (p.1 :: q.1, q.2)
/-- A record read off the front of bytes, and what is left of them; none: it is none. -/
def decL : Nat → List Fld → List UInt8 → Option (List Val × List UInt8)
  | 0, _, _ => none
  | r + 1, l, s => seqD (oneD (decL r)) l s

theorem amtD_enc {f : Fld} {s t : List UInt8} {n : Nat} (h : amtD f s = some (n, t)) (hm : f.min ≤ f.max) : f.min ≤ n ∧ n ≤ f.max ∧ s = leN (n - f.min) (wid (f.max - f.min)) ++ t := by
  unfold amtD at h
  split at h
  · rename_i hl
    split at h
    · cases h
    · simp only [Option.some.injEq, Prod.mk.injEq] at h
      obtain ⟨rfl, rfl⟩ := h
      refine ⟨by omega, by omega, ?_⟩
      rw [Nat.add_sub_cancel_left]
      have e : leN (leVal (s.take (wid (f.max - f.min)))) (wid (f.max - f.min)) = s.take (wid (f.max - f.min)) := by
        have := leN_leVal (s.take (wid (f.max - f.min)))
        rwa [List.length_take, Nat.min_eq_left hl] at this
      rw [e, List.take_append_drop]
  · cases h
theorem amtD_dec {f : Fld} {t : List UInt8} {n : Nat} (h1 : f.min ≤ n) (h2 : n ≤ f.max) (hf : f.max < 18446744073709551616) : amtD f (leN (n - f.min) (wid (f.max - f.min)) ++ t) = some (n, t) := by
  have hw := wid_lt (f.max - f.min) (by omega)
  have hl := leN_len (n - f.min) (wid (f.max - f.min))
  unfold amtD
  rw [if_pos (by rw [List.length_append, hl]; omega), List.take_left' hl, List.drop_left' hl, leVal_leN _ _ (by omega), if_neg (by omega)]
  congr 2
  omega
theorem manyD_enc {D : List UInt8 → Option (List Val × List UInt8)} {E : List Val → Option (List UInt8)} (hD : ∀ s v t, D s = some (v, t) → ∃ p, E v = some p ∧ s = p ++ t) : ∀ (n : Nat) (s t : List UInt8) (L : List (List Val)), manyD D n s = some (L, t) → L.length = n ∧ ∃ p, catO (L.map E) = some p ∧ s = p ++ t
  | 0, s, t, L, h => by
    simp only [manyD, Option.some.injEq, Prod.mk.injEq] at h
    obtain ⟨rfl, rfl⟩ := h
    exact ⟨rfl, [], rfl, rfl⟩
  | n + 1, s, t, L, h => by
    simp only [manyD] at h
    obtain ⟨⟨v, s1⟩, h1, h2⟩ := Option.bind_eq_some_iff.1 h
    obtain ⟨⟨L', t'⟩, h3, h4⟩ := Option.map_eq_some_iff.1 h2
    simp only [Prod.mk.injEq] at h4
    obtain ⟨rfl, rfl⟩ := h4
    obtain ⟨p, hp, rfl⟩ := hD _ _ _ h1
    obtain ⟨hl, q, hq, hs⟩ := manyD_enc hD n s1 t' L' h3
    refine ⟨by simp [hl], p ++ q, ?_, by rw [hs, List.append_assoc]⟩
    simp only [List.map_cons, hp, catO, hq, Option.map_some]
theorem manyD_dec {D : List UInt8 → Option (List Val × List UInt8)} {E : List Val → Option (List UInt8)} (hD : ∀ v p t, E v = some p → D (p ++ t) = some (v, t)) : ∀ (L : List (List Val)) (p t : List UInt8), catO (L.map E) = some p → manyD D L.length (p ++ t) = some (L, t)
  | [], p, t, h => by
    simp [catO] at h
    subst h
    rfl
  | v :: L, p, t, h => by
    simp only [List.map_cons] at h
    cases hv : E v with
    | none => rw [hv] at h; simp [catO] at h
    | some a =>
      rw [hv] at h
      simp only [catO] at h
      obtain ⟨q, hq, rfl⟩ := Option.map_eq_some_iff.1 h
      simp only [List.length_cons, manyD]
      rw [List.append_assoc, hD v a _ hv, Option.bind_some, manyD_dec hD L q t hq]
      rfl
theorem oneD_enc {D : List Fld → List UInt8 → Option (List Val × List UInt8)} {E : List Fld → List Val → Option (List UInt8)} {M : List Fld → Option Nat} {f : Fld} {a0 : Nat} (hm : mostOne M f = some a0) (hD : ∀ k, M f.of = some k → ∀ s v t, D f.of s = some (v, t) → ∃ p, E f.of v = some p ∧ s = p ++ t) {s t : List UInt8} {x : Val} (h : oneD D f s = some (x, t)) : ∃ p, encOne E f x = some p ∧ s = p ++ t := by
  obtain ⟨⟨n, s1⟩, h1, h2⟩ := Option.bind_eq_some_iff.1 h
  obtain ⟨g1, g2, rfl⟩ := amtD_enc h1 (mostOne_le' hm)
  simp only at h2
  have key : ∀ r, amountOf f x = some n → catO (x.l.map (E f.of)) = some r → x.b ++ r ++ t = s1 → ∃ p, encOne E f x = some p ∧ leN (n - f.min) (wid (f.max - f.min)) ++ s1 = p ++ t := fun r ha hr hs => by
    refine ⟨leN (n - f.min) (wid (f.max - f.min)) ++ (x.b ++ r), ?_, by rw [← hs]; simp⟩
    unfold encOne
    rw [ha]
    simp only
    rw [if_neg (by omega), hr]
    rfl
  by_cases k1 : f.kind = 1
  · rw [if_pos k1] at h2
    simp only [Option.some.injEq, Prod.mk.injEq] at h2
    obtain ⟨rfl, rfl⟩ := h2
    exact key [] (by unfold amountOf; simp [k1, Val.b, Val.l, Val.n]) (by simp [Val.l, catO]) (by simp [Val.b])
  rw [if_neg k1] at h2
  by_cases k2 : f.kind = 2
  · rw [if_pos k2] at h2
    split at h2
    · rename_i hl
      simp only [Option.some.injEq, Prod.mk.injEq] at h2
      obtain ⟨rfl, rfl⟩ := h2
      exact key [] (by unfold amountOf; simp [k2, Val.b, Val.l, Val.n]; omega) (by simp [Val.l, catO]) (by simp [Val.b])
    · cases h2
  rw [if_neg k2] at h2
  obtain ⟨k3, k, hk, _⟩ := mostOne_of hm k1 k2
  obtain ⟨⟨L, t'⟩, h3, h4⟩ := Option.map_eq_some_iff.1 h2
  simp only [Prod.mk.injEq] at h4
  obtain ⟨rfl, rfl⟩ := h4
  obtain ⟨hl, q, hq, hs⟩ := manyD_enc (hD k hk) n s1 t' L h3
  exact key q (by unfold amountOf; simp [k3, Val.b, Val.l, Val.n]; exact hl) (by simpa [Val.l] using hq) (by simp [Val.b, hs])
theorem oneD_dec {D : List Fld → List UInt8 → Option (List Val × List UInt8)} {E : List Fld → List Val → Option (List UInt8)} {M : List Fld → Option Nat} {f : Fld} {a0 : Nat} (hm : mostOne M f = some a0) (hf : f.max < 18446744073709551616) (hD : ∀ k, M f.of = some k → ∀ v p t, E f.of v = some p → D f.of (p ++ t) = some (v, t)) {p t : List UInt8} {x : Val} (h : encOne E f x = some p) : oneD D f (p ++ t) = some (x, t) := by
  obtain ⟨n, r, ha, g1, g2, hr, rfl⟩ := encOne_split h
  obtain ⟨A1, A2, A3⟩ := amountOf_facts ha
  unfold oneD
  rw [List.append_assoc, amtD_dec g1 g2 hf, Option.bind_some]
  simp only
  by_cases k1 : f.kind = 1
  · obtain ⟨z1, z2, z3⟩ := A1 k1
    have l1 := nil_of z2
    have b1 := nil_of z1
    rw [l1] at hr
    simp [catO] at hr
    subst hr
    rw [if_pos k1, b1]
    congr 2
    exact val_ext z3 b1.symm l1.symm
  rw [if_neg k1]
  by_cases k2 : f.kind = 2
  · obtain ⟨z1, z2, z3⟩ := A2 k2
    have l1 := nil_of z2
    rw [l1] at hr
    simp [catO] at hr
    subst hr
    rw [if_pos k2, List.append_nil, if_pos (by simp; omega), List.take_left' z3.symm, List.drop_left' z3.symm]
    congr 2
    exact val_ext z1.symm rfl l1.symm
  obtain ⟨z1, z2, z3⟩ := A3 k1 k2
  have b1 := nil_of z2
  obtain ⟨k3, k, hk, _⟩ := mostOne_of hm k1 k2
  rw [if_neg k2, b1, List.nil_append, z3, manyD_dec (hD k hk) x.l r t hr, Option.map_some]
  congr 2
  exact val_ext z1.symm b1.symm rfl
theorem seqD_enc {D : List Fld → List UInt8 → Option (List Val × List UInt8)} {E : List Fld → List Val → Option (List UInt8)} {M : List Fld → Option Nat} (hD : ∀ l k, M l = some k → ∀ s v t, D l s = some (v, t) → ∃ p, E l v = some p ∧ s = p ++ t) : ∀ (l : List Fld) (S : Nat) (v : List Val) (s t : List UInt8), mostSum M l = some S → seqD (oneD D) l s = some (v, t) → l.length = v.length ∧ ∃ p, catO (List.zipWith (encOne E) l v) = some p ∧ s = p ++ t
  | [], S, v, s, t, _, h => by
    simp only [seqD, Option.some.injEq, Prod.mk.injEq] at h
    obtain ⟨rfl, rfl⟩ := h
    exact ⟨rfl, [], rfl, rfl⟩
  | f :: l, S, v, s, t, hS, h => by
    unfold mostSum at hS
    cases hm : mostOne M f with
    | none => rw [hm] at hS; cases hS
    | some a0 =>
      rw [hm] at hS
      obtain ⟨S', hS', _⟩ := Option.map_eq_some_iff.1 hS
      simp only [seqD] at h
      obtain ⟨⟨x, s1⟩, h1, h2⟩ := Option.bind_eq_some_iff.1 h
      obtain ⟨⟨v', t'⟩, h3, h4⟩ := Option.map_eq_some_iff.1 h2
      simp only [Prod.mk.injEq] at h4
      obtain ⟨rfl, rfl⟩ := h4
      obtain ⟨p, hp, rfl⟩ := oneD_enc (E := E) hm (fun k hk => hD f.of k hk) h1
      obtain ⟨hl, q, hq, hs⟩ := seqD_enc hD l S' v' s1 t' hS' h3
      refine ⟨by simp [hl], p ++ q, ?_, by rw [hs, List.append_assoc]⟩
      rw [List.zipWith_cons_cons, hp]
      simp only [catO, hq, Option.map_some]
theorem seqD_dec {D : List Fld → List UInt8 → Option (List Val × List UInt8)} {E : List Fld → List Val → Option (List UInt8)} {M : List Fld → Option Nat} (P : List Fld → Prop) (hD : ∀ l k, M l = some k → P l → ∀ v p t, E l v = some p → D l (p ++ t) = some (v, t)) : ∀ (l : List Fld) (S : Nat) (v : List Val) (p t : List UInt8), mostSum M l = some S → (∀ f ∈ l, f.max < 18446744073709551616 ∧ P f.of) → l.length = v.length → catO (List.zipWith (encOne E) l v) = some p → seqD (oneD D) l (p ++ t) = some (v, t)
  | [], S, v, p, t, _, _, hv, h => by
    have e1 : v = [] := nil_of (by simpa using hv.symm)
    simp [catO] at h
    subst h
    rw [e1]
    rfl
  | f :: l, S, [], _, _, _, _, hv, _ => by simp at hv
  | f :: l, S, x :: v, p, t, hS, hw, hv, h => by
    rw [List.zipWith_cons_cons] at h
    unfold mostSum at hS
    cases hm : mostOne M f with
    | none => rw [hm] at hS; cases hS
    | some a0 =>
      rw [hm] at hS
      obtain ⟨S', hS', _⟩ := Option.map_eq_some_iff.1 hS
      cases hx : encOne E f x with
      | none => rw [hx] at h; simp [catO] at h
      | some a =>
        rw [hx] at h
        simp only [catO] at h
        obtain ⟨q, hq, rfl⟩ := Option.map_eq_some_iff.1 h
        have hwf := hw f (by simp)
        simp only [seqD]
        rw [List.append_assoc, oneD_dec hm hwf.1 (fun k hk => hD f.of k hk hwf.2) hx, Option.bind_some, seqD_dec P hD l S' v q t hS' (fun g hg => hw g (by simp [hg])) (by simpa using hv) hq]
        rfl
/-- What is read, encoded, is the bytes that were read. -/
theorem decL_enc : ∀ (r : Nat) (l : List Fld) (k : Nat), mostL r l = some k → ∀ (s : List UInt8) (v : List Val) (t : List UInt8), decL r l s = some (v, t) → ∃ p, encL r l v = some p ∧ s = p ++ t
  | 0, _, _, h, _, _, _, _ => by simp [mostL] at h
  | r + 1, l, k, h, s, v, t, hd => by
    obtain ⟨hS, _⟩ := mostL_succ h
    obtain ⟨hl, p, hp, hs⟩ := seqD_enc (E := encL r) (fun l k hk s v t h => decL_enc r l k hk s v t h) l k v s t hS hd
    exact ⟨p, by unfold encL; rw [if_pos hl]; exact hp, hs⟩
/-- What was encoded is read as it was. -/
theorem decL_dec : ∀ (r : Nat) (l : List Fld) (k : Nat), mostL r l = some k → Fwf r l → ∀ (v : List Val) (p t : List UInt8), encL r l v = some p → decL r l (p ++ t) = some (v, t)
  | 0, _, _, h, _, _, _, _, _ => by simp [mostL] at h
  | r + 1, l, k, h, hw, v, p, t, he => by
    obtain ⟨hS, _⟩ := mostL_succ h
    unfold encL at he
    split at he
    · exact seqD_dec (Fwf r) (fun l k hk hP v p t h => decL_dec r l k hk hP v p t h) l k v p t hS hw (by assumption) he
    · cases he

/-- One more of many. -/
theorem manyD_snoc {α : Type} (D : List UInt8 → Option (α × List UInt8)) : ∀ (n : Nat) (s : List UInt8), manyD D (n + 1) s = (manyD D n s).bind fun q => (D q.2).map fun p => (q.1 ++ [p.1], p.2)
  | 0, s => by simp only [manyD, Option.bind_some, List.nil_append]; cases D s <;> rfl
  | n + 1, s => by
    show ((D s).bind fun p => (manyD D (n + 1) p.2).map fun q => (p.1 :: q.1, q.2)) = ((D s).bind fun p => (manyD D n p.2).map fun q => (p.1 :: q.1, q.2)).bind _
    cases D s with
    | none => rfl
    | some p =>
      simp only [Option.bind_some]
      rw [manyD_snoc D n]
      cases manyD D n p.2 with
      | none => rfl
      | some q =>
        simp only [Option.bind_some, Option.map_some]
        cases D q.2 <;> rfl
theorem manyD_none {α : Type} (D : List UInt8 → Option (α × List UInt8)) (s : List UInt8) {k n : Nat} (hk : k ≤ n) (h : manyD D k s = none) : manyD D n s = none := by
  induction n with
  | zero => rw [Nat.le_zero.1 hk] at h; exact h
  | succ n ih =>
    rcases Nat.lt_or_ge k (n + 1) with h1 | h1
    · rw [manyD_snoc, ih (by omega)]; rfl
    · rw [← Nat.le_antisymm hk h1]; exact h
theorem seqD_append (D : Fld → List UInt8 → Option (Val × List UInt8)) : ∀ (a b : List Fld) (s : List UInt8), seqD D (a ++ b) s = (seqD D a s).bind fun q => (seqD D b q.2).map fun p => (q.1 ++ p.1, p.2)
  | [], b, s => by simp [seqD]
  | f :: a, b, s => by
    simp only [List.cons_append, seqD, seqD_append D a b]
    cases D f s with
    | none => rfl
    | some p =>
      simp only [Option.bind_some]
      cases seqD D a p.2 with
      | none => rfl
      | some q =>
        simp only [Option.bind_some, Option.map_some]
        cases seqD D b q.2 <;> rfl
theorem seqD_snoc (D : Fld → List UInt8 → Option (Val × List UInt8)) (l : List Fld) (I : Nat) (f : Fld) (hf : l[I]? = some f) (s : List UInt8) : seqD D (l.take (I + 1)) s = (seqD D (l.take I) s).bind fun q => (D f q.2).map fun p => (q.1 ++ [p.1], p.2) := by
  rw [List.take_add_one, hf, seqD_append]
  congr
  funext q
  simp only [Option.toList_some, seqD, Option.map_some]
  cases D f q.2 <;> rfl
theorem seqD_none (D : Fld → List UInt8 → Option (Val × List UInt8)) (l : List Fld) (I : Nat) (s : List UInt8) (h : seqD D (l.take I) s = none) : seqD D l s = none := by
  rw [← List.take_append_drop I l, seqD_append, h]
  rfl
end Go.Proofs.YtbegphfideopoaaGreat
namespace Go.Proofs.YtbegphfideopoaaGreat
open Go.RowKit

theorem own_empty (w : World) (base n : Nat) (hn : n = w.heap.size) (hb : base ≤ w.heap.size) : Own (w.alloc (.cells #[] 5)) base (.slice (some ⟨n, 0, none⟩) 0 0) [] := by
  subst hn
  exact ⟨rfl, .inr ⟨w.heap.size, 0, #[], rfl, hb, heap_alloc_new w _, Nat.le_refl _, Nat.zero_le _, rfl, rfl⟩⟩
theorem Seg.shape {w : World} {v : Value} {bs : List UInt8} (h : Seg w v bs) : ∃ ao c, v = .slice ao bs.length c := by
  rcases h with ⟨rfl, ao', c', h, _⟩ | ⟨b, off, c', h, _⟩
  · exact ⟨_, _, h⟩
  · exact ⟨_, _, h⟩
theorem elem_bytes : Tryz.prog.elem 34 = 5 := by kernel_rfl
theorem size_byte (w : World) : (sizeOf 5).run Tryz.prog w = .ok 1 w := by kernel_rfl
theorem add_zero_addr (ao : Option Addr) : ao.map (·.add 0) = ao := by
  cases ao with
  | none => rfl
  | some a => obtain ⟨b, o, s⟩ := a; simp [Addr.add]
theorem slice_to (ao : Option Addr) (len c n : Nat) (h : n ≤ c) (w : World) : (Instr.slice 34 (.slice ao len c) none (some (.int .i64 (n : Int))) none).run Tryz.prog w = .ok (.slice ao n c) w := by
  rw [run_slice_h w 34 ao len c (by rw [elem_bytes]; exact Tryz.underlying34) .i64 n (by omega) (by omega), elem_bytes, size_byte]
  simp only [Result.andThen_ok, sliced, Int.toNat_natCast, Nat.zero_mul, add_zero_addr, Nat.sub_zero, ite_self]
theorem Seg.takes {w : World} {ao : Option Addr} {len c : Nat} {bs : List UInt8} (h : Seg w (.slice ao len c) bs) (n : Nat) (hn : n ≤ len) : Seg w (.slice ao n c) (bs.take n) ∧ n ≤ c := by
  rcases h with ⟨rfl, ao', c', h, h2⟩ | ⟨b, off, c', h, h2, h3, h4⟩
  · cases h
    obtain rfl : n = 0 := by omega
    exact ⟨.inl ⟨rfl, _, _, rfl, h2⟩, Nat.zero_le _⟩
  · cases h
    exact ⟨Seg.of_row (h3.take n) (by simp; omega) (by omega) h4, by omega⟩
theorem grown_transB {a b c : World} {row : Option Nat} (h : a.grownBy b row) (k : b.grownBy c row) : a.grownBy c row := World.grownBy.trans h k
end Go.Proofs.YtbegphfideopoaaGreat
namespace Go.Proofs.YtbegphfideopoaaGreat
open Go.RowKit

/-- Where the rest of a slice begins. -/
def restAt (ao : Option Addr) (c lo : Nat) : Option Addr := if c = lo then ao else ao.map (·.add (lo * 1))
theorem slice_rest (ao : Option Addr) (len c lo : Nat) (h : lo ≤ len) (w : World) : (Instr.slice 34 (.slice ao len c) (some (.int .i64 (lo : Int))) none none).run Tryz.prog w = .ok (.slice (restAt ao c lo) (len - lo) (c - lo)) w := by
  rw [run_slice_l w 34 ao len c (by rw [elem_bytes]; exact Tryz.underlying34) .i64 lo (by omega) (by omega), elem_bytes, size_byte]
  simp only [Result.andThen_ok, sliced, Int.toNat_natCast, restAt]

theorem Seg.drops {w : World} {ao : Option Addr} {len c : Nat} {bs : List UInt8} (h : Seg w (.slice ao len c) bs) (n : Nat) (hn : n ≤ len) : Seg w (.slice (restAt ao c n) (len - n) (c - n)) (bs.drop n) := by
  rcases h with ⟨rfl, ao', c', h, h2⟩ | ⟨b, off, c', h, h2, h3, h4⟩
  · cases h
    obtain rfl : n = 0 := by omega
    refine .inl ⟨rfl, _, _, rfl, fun e => ?_⟩
    unfold restAt at e
    split at e
    · omega
    · rw [Option.map_eq_none_iff] at e
      have := h2 e
      omega
  · cases h
    by_cases hc : c = n
    · have e : restAt (some ⟨b, off, none⟩) c n = some ⟨b, off, none⟩ := by unfold restAt; rw [if_pos hc]
      rw [e]
      have hb : bs.drop n = [] := List.drop_eq_nil_of_le (by omega)
      rw [hb]
      exact .inl ⟨rfl, _, c - n, by congr 1; omega, fun e => by cases e⟩
    · have e : restAt (some ⟨b, off, none⟩) c n = some ⟨b, off + n, none⟩ := by unfold restAt; rw [if_neg hc, Option.map_some, Addr.add_mid, Nat.mul_one]
      rw [e]
      exact Seg.of_row (h3.drop n) (by simp) (by omega) h4

/-- A reader lies here: what is left of it are bytes of the world ahead of it. -/
def Reads (w0 w : World) (g : Nat) (s : List UInt8) : Prop := w0.heap.size ≤ g ∧ Below w0.heap.size w0 w ∧ s.length ≤ maxLen ∧ ∃ lv, Blk w g 156 #[lv] ∧ Seg w0 lv s
theorem Reads.grown {w0 w w' : World} {g : Nat} {s : List UInt8} {row : Option Nat} (h : Reads w0 w g s) (hg : w.grownBy w' row) (h1 : some g ≠ row) (h2 : ∀ k, row = some k → w0.heap.size ≤ k) : Reads w0 w' g s := by
  obtain ⟨a, b, c, lv, d, e⟩ := h
  exact ⟨a, below_grown b hg b.size h2, c, lv, d.grown hg h1, e⟩
theorem grown_set (w : World) (g i : Nat) (v : Value) : w.grownBy (w.setCell ⟨g, i, none⟩ v) (some g) := by
  have b := (Below.refl 0 w).setCell (p := ⟨g, i, none⟩) (Nat.zero_le _) v
  exact ⟨b.os, b.tape, b.output, b.size, fun k _ hk => Below.heap_setCell w _ v k (fun e => hk (by rw [e]))⟩
theorem grown_refl (w : World) (row : Option Nat) : w.grownBy w row := ⟨rfl, rfl, rfl, Nat.le_refl _, fun _ _ _ => rfl⟩
/-- What a take answers: something and what is left, or nothing. -/
def takePost {α : Type} (w0 w : World) (g : Nat) (r : Option (α × List UInt8)) (R : α → Value → World → Prop) (z : Value) (e : Ending) (w' : World) : Prop := (match r with
  | some p => ∃ v, e = .returned (.tuple #[v, .bool true]) ∧ R p.1 v w' ∧ Reads w0 w' g p.2
  | none => ∃ s', e = .returned (.tuple #[z, .bool false]) ∧ Reads w0 w' g s') ∧ w.grownBy w' (some g)

set_option maxRecDepth 100000 in
set_option maxHeartbeats 1000000 in
theorem takeBytes_any (n : Nat) (hn : n ≤ maxLen) (s : List UInt8) (g : Nat) (w0 w : World) (hR : Reads w0 w g s) :
    Calls Tryz.prog 155 #[.pointer (some ⟨g, 0, none⟩), .int .i64 (n : Int)] w fun e w' => takePost w0 w g (if n ≤ s.length then some (s.take n, s.drop n) else none) (fun b v _ => Seg w0 v b) (.slice none 0 0) e w' := by
  obtain ⟨hg, hB, hm, lv, hb, hs⟩ := hR
  obtain ⟨ao, c, rfl⟩ := hs.shape
  unfold maxLen at hn hm
  have c0 := hb.cell (j := 0) rfl
  have z0 := hb.frozen 0
  obtain ⟨len, hlen⟩ : ∃ len, len = s.length := ⟨_, rfl⟩
  rw [← hlen] at hs hm hb c0 ⊢
  by_cases h : n ≤ len
  · have i1 : ¬ (len : Int) < (n : Int) := by omega
    obtain ⟨ht, hnc⟩ := hs.takes n h
    have hd := hs.drops n h
    have l1 := slice_to ao len c n hnc
    have l2 := slice_rest ao len c n h
    rw [if_pos h]
    generalize restAt ao c n = ra at *
    have HX : Hid ((s.take n).length = n) := by show _ = _; rw [List.length_take]; omega
    have HY : Hid (len = s.length) := hlen
    clear hlen
    go_enter Tryz.func155, Tryz.ntmps155
    go_wp2
    go_ret2
    exact ⟨⟨_, rfl, ht, hg, hB.setCell hg _, by show (s.drop n).length ≤ maxLen; rw [List.length_drop]; unfold maxLen; have := HY.out; omega, _, hb.set 0 _, hd⟩, grown_set _ _ _ _⟩
  · have i1 : (len : Int) < (n : Int) := by omega
    rw [if_neg h]
    go_enter Tryz.func155, Tryz.ntmps155
    go_wp2
    go_ret2
    exact ⟨⟨s, rfl, hg, hB, by unfold maxLen; omega, _, hb, hs⟩, grown_refl _ _⟩
end Go.Proofs.YtbegphfideopoaaGreat
namespace Go.Proofs.YtbegphfideopoaaGreat
open Go.RowKit

theorem grows_below {w w' : World} (h : Below w.heap.size w w') (row : Option Nat) : w.grownBy w' row := ⟨h.os, h.tape, h.output, h.size, fun k hk _ => h.block k hk⟩

theorem Reads.below {w0 w w' : World} {g : Nat} {s : List UInt8} (h : Reads w0 w g s) (hb : Below w.heap.size w w') : Reads w0 w' g s := h.grown (grows_below hb none) (fun e => by cases e) (fun _ e => by cases e)
theorem leVal_take : ∀ (bs : List UInt8) (k : Nat) (h : k < bs.length), leVal (bs.take (k + 1)) = leVal (bs.take k) + 256 ^ k * bs[k].toNat
  | [], k, h => by simp at h
  | b :: bs, 0, h => by simp [leVal]
  | b :: bs, k + 1, h => by
    have hk : k < bs.length := by simpa using h
    rw [List.take_succ_cons, List.take_succ_cons]
    simp only [leVal, List.getElem_cons_succ]
    rw [leVal_take bs k hk, Nat.pow_succ, Nat.mul_add, Nat.mul_right_comm, Nat.mul_comm (256 ^ k * bs[k].toNat) 256, ← Nat.mul_assoc, Nat.add_assoc]
theorem leVal_lt : ∀ s : List UInt8, leVal s < 256 ^ s.length
  | [] => by simp [leVal]
  | b :: r => by
    have hb := b.toNat_lt
    have := leVal_lt r
    simp only [leVal, List.length_cons, Nat.pow_succ]
    omega
theorem or_le (n i : Nat) (x : UInt8) (h : n < 2 ^ (8 * i)) (hi : i < 8) : bits .or .u64 (n : Int) ((x.toNat * 2 ^ (8 * i) : Nat) : Int) = ((n + 2 ^ (8 * i) * x.toNat : Nat) : Int) := by
  have hx := x.toNat_lt
  have h1 : 2 ^ (8 * i) ≤ 2 ^ 56 := Nat.pow_le_pow_right (by omega) (by omega)
  have h2 : x.toNat * 2 ^ (8 * i) ≤ 255 * 2 ^ 56 := Nat.mul_le_mul (by omega) h1
  rw [bits_or64 _ _ (by omega) (by omega)]
  have := Nat.shiftLeft_add_eq_or_of_lt (i := 8 * i) (b := n) h x.toNat
  rw [Nat.shiftLeft_eq] at this
  rw [Nat.or_comm, ← this, Nat.mul_comm, Nat.add_comm]

set_option maxRecDepth 100000 in
set_option maxHeartbeats 1000000 in
theorem takeAmount_any (f : Fld) (o : Value) (hmm : f.min ≤ f.max) (hmx : f.max < 18446744073709551616) (s : List UInt8) (g : Nat) (w0 w : World) (hR : Reads w0 w g s) :
    Calls Tryz.prog 154 #[.pointer (some ⟨g, 0, none⟩), fldV f o] w fun e w' => takePost w0 w g (amtD f s) (fun n v _ => v = .int .u64 (n : Int)) (.int .u64 0) e w' := by
  have hwp := wid_pos (f.max - f.min)
  have hwl := wid_le (f.max - f.min)
  have HW : Hid (∀ W, Calls Tryz.prog 138 #[fldV f o] W fun e w' => e = .returned (.int .i64 (wid (f.max - f.min) : Int)) ∧ Below W.heap.size W w') := fun W => width_any f o hmm hmx W
  have HA : Hid (amtD f s = if wid (f.max - f.min) ≤ s.length then (if f.max - f.min < leVal (s.take (wid (f.max - f.min))) then none else some (f.min + leVal (s.take (wid (f.max - f.min))), s.drop (wid (f.max - f.min)))) else none) := by show _ = _; rfl
  rw [HA.out]
  clear HA
  generalize wid (f.max - f.min) = wd at *
  have HT : Hid (∀ W, Reads w0 W g s → Calls Tryz.prog 155 #[.pointer (some ⟨g, 0, none⟩), .int .i64 (wd : Int)] W fun e w' => takePost w0 W g (if wd ≤ s.length then some (s.take wd, s.drop wd) else none) (fun b v _ => Seg w0 v b) (.slice none 0 0) e w') := fun W hW => takeBytes_any wd (by unfold maxLen; omega) s g w0 W hW
  unfold fldV at *
  have hsub : (f.max : Int) - (f.min : Int) = ((f.max - f.min : Nat) : Int) := by omega
  by_cases hl : wd ≤ s.length
  · rw [if_pos hl]
    simp only [if_pos hl] at HT
    obtain ⟨res, hres⟩ : ∃ res, res = (if f.max - f.min < leVal (s.take wd) then none else some (f.min + leVal (s.take wd), s.drop wd)) := ⟨_, rfl⟩
    rw [← hres]
    have HR : Hid (res = (if f.max - f.min < leVal (s.take wd) then none else some (f.min + leVal (s.take wd), s.drop wd))) := hres
    clear hres
    go_enter Tryz.func154, Tryz.ntmps154
    go_wp2_with (first | (go_at_call 138; refine (HW.out _).mono ?_; rintro e w1 ⟨rfl, hb0⟩; have hb1 : Below w.heap.size w w1 := ((Below.refl _ _).alloc (Nat.le_refl _) _).trans (hb0.mono (by simp)); have hf1 := (Blk.new w 142 #[.int .i64 f.kind, .int .u64 (f.min : Int), .int .u64 (f.max : Int), o]).below hb0 (by simp); clear hb0) | (go_at_call 155; refine (HT.out _ (by exact hR.below hb1)).mono ?_; rintro e w2 ⟨⟨bv, rfl, hbv, hR2⟩, hg2⟩; obtain ⟨ab, cb, rfl⟩ := hbv.shape) | fail)
    have hgw : g < w.heap.size := by obtain ⟨_, _, _, _, hb, _⟩ := hR; exact hb.lt
    have hf2 : Blk w2 w.heap.size 142 #[.int .i64 f.kind, .int .u64 (f.min : Int), .int .u64 (f.max : Int), o] := hf1.grown hg2 (fun e => by have := Option.some.inj e; omega)
    have d1 := hf2.cell (j := 1) rfl
    have d2 := hf2.cell (j := 2) rfl
    have hG := grown_transB (grows_below hb1 (some g)) hg2
    have hbl : (s.take wd).length = wd := by rw [List.length_take]; omega
    generalize hT : s.take wd = bs at *
    obtain ⟨b, off, rfl, hcb, hrow, _⟩ : ∃ b off, ab = some ⟨b, off, none⟩ ∧ wd ≤ cb ∧ Row w2 b off bs ∧ True := by
      rcases hbv with ⟨h1, _⟩ | ⟨b, off, c', h1, h2, h3, h4⟩
      · rw [h1] at hbl; simp at hbl; omega
      · cases h1
        exact ⟨b, off, rfl, by omega, h3.below hR2.2.1 h4, trivial⟩
    have HBL : Hid (bs.length = wd) := hbl
    try rw [hbl]
    clear hbl hT hf1 hf2
    go_loopw [8, 22] (fun n i wr => ∃ k : Nat, k ≤ wd ∧ i = .int .i64 (k : Int) ∧ n = .int .u64 (leVal (bs.take k) : Int) ∧ wr = w2) (fun _ i _ => wd - (intOf i).toNat)
    case atStart => exact ⟨0, Nat.zero_le _, rfl, rfl, rfl⟩
    case round =>
      obtain ⟨k, hk, rfl, rfl, hwr⟩ := hrel
      subst hwr
      by_cases hlt : k < wd
      · have hkl : k < bs.length := by have := HBL.out; omega
        have hc := hrow k hkl
        have hb := leVal_lt (bs.take k)
        have HN : Hid (leVal (bs.take (k + 1)) = leVal (bs.take k) + 2 ^ (8 * k) * bs[k].toNat) := by show _ = _; rw [leVal_take bs k hkl, Nat.pow_mul]
        rw [List.length_take, Nat.min_eq_left (by omega)] at hb
        have ho := or_le (leVal (bs.take k)) k bs[k] (by rw [Nat.pow_mul]; exact hb) (by omega)
        have hx := lt8 bs[k]
        have hx0 := ge8 bs[k]
        clear hb hR2 hbv
        generalize bs[k] = x at *
        generalize leVal (bs.take k) = N at *
        have hk8 : k = 0 ∨ k = 1 ∨ k = 2 ∨ k = 3 ∨ k = 4 ∨ k = 5 ∨ k = 6 ∨ k = 7 := by omega
        rcases hk8 with rfl | rfl | rfl | rfl | rfl | rfl | rfl | rfl
        · rw [Nat.add_zero] at hc
          have ho' : bits .or .u64 (N : Int) (n8 x) = ((N + 1 * x.toNat : Nat) : Int) := by simpa [n8] using ho
          clear ho
          go_wp2
          go_roundw
          case rel => exact ⟨1, by omega, by go_num, by rw [show 1 = 0 + 1 from rfl, HN.out]; simp, trivial⟩
          case measure => simp [intOf]; omega
        · have ho' : bits .or .u64 (N : Int) (n8 x * 256) = ((N + 256 * x.toNat : Nat) : Int) := by simpa [n8] using ho
          clear ho
          go_wp2
          go_roundw
          case rel => exact ⟨2, by omega, by go_num, by rw [show 2 = 1 + 1 from rfl, HN.out]; simp, trivial⟩
          case measure => simp [intOf]; omega
        · have ho' : bits .or .u64 (N : Int) (n8 x * 65536) = ((N + 65536 * x.toNat : Nat) : Int) := by simpa [n8] using ho
          clear ho
          go_wp2
          go_roundw
          case rel => exact ⟨3, by omega, by go_num, by rw [show 3 = 2 + 1 from rfl, HN.out]; simp, trivial⟩
          case measure => simp [intOf]; omega
        · have ho' : bits .or .u64 (N : Int) (n8 x * 16777216) = ((N + 16777216 * x.toNat : Nat) : Int) := by simpa [n8] using ho
          clear ho
          go_wp2
          go_roundw
          case rel => exact ⟨4, by omega, by go_num, by rw [show 4 = 3 + 1 from rfl, HN.out]; simp, trivial⟩
          case measure => simp [intOf]; omega
        · have ho' : bits .or .u64 (N : Int) (n8 x * 4294967296) = ((N + 4294967296 * x.toNat : Nat) : Int) := by simpa [n8] using ho
          clear ho
          go_wp2
          go_roundw
          case rel => exact ⟨5, by omega, by go_num, by rw [show 5 = 4 + 1 from rfl, HN.out]; simp, trivial⟩
          case measure => simp [intOf]; omega
        · have ho' : bits .or .u64 (N : Int) (n8 x * 1099511627776) = ((N + 1099511627776 * x.toNat : Nat) : Int) := by simpa [n8] using ho
          clear ho
          go_wp2
          go_roundw
          case rel => exact ⟨6, by omega, by go_num, by rw [show 6 = 5 + 1 from rfl, HN.out]; simp, trivial⟩
          case measure => simp [intOf]; omega
        · have ho' : bits .or .u64 (N : Int) (n8 x * 281474976710656) = ((N + 281474976710656 * x.toNat : Nat) : Int) := by simpa [n8] using ho
          clear ho
          go_wp2
          go_roundw
          case rel => exact ⟨7, by omega, by go_num, by rw [show 7 = 6 + 1 from rfl, HN.out]; simp, trivial⟩
          case measure => simp [intOf]; omega
        · have ho' : bits .or .u64 (N : Int) (n8 x * 72057594037927936) = ((N + 72057594037927936 * x.toNat : Nat) : Int) := by simpa [n8] using ho
          clear ho
          go_wp2
          go_roundw
          case rel => exact ⟨8, by omega, by go_num, by rw [show 8 = 7 + 1 from rfl, HN.out]; simp, trivial⟩
          case measure => simp [intOf]; omega
      · have HK : Hid (k = wd) := by show _ = _; omega
        rw [List.take_of_length_le (by have := HBL.out; have := HK.out; omega)]
        have i3 : ¬ (k : Int) < (wd : Int) := by omega
        by_cases hbig : f.max - f.min < leVal bs
        · have HE : Hid (res = none) := by show _ = _; rw [HR.out, if_pos hbig]
          have i2 : ((f.max - f.min : Nat) : Int) < (leVal bs : Int) := by omega
          generalize leVal bs = N at *
          go_wp2
          go_ret2
          rw [HE.out]
          exact ⟨⟨_, rfl, hR2⟩, hG⟩
        · have HE : Hid (res = some (f.min + leVal bs, s.drop wd)) := by show _ = _; rw [HR.out, if_neg hbig]
          have i2 : ¬ ((f.max - f.min : Nat) : Int) < (leVal bs : Int) := by omega
          generalize leVal bs = N at *
          go_wp2
          go_ret2
          rw [HE.out]
          exact ⟨⟨_, rfl, by simp, hR2⟩, hG⟩
  · rw [if_neg hl]
    simp only [if_neg hl] at HT
    go_enter Tryz.func154, Tryz.ntmps154
    go_wp2_with (first | (go_at_call 138; refine (HW.out _).mono ?_; rintro e w1 ⟨rfl, hb0⟩; have hb1 : Below w.heap.size w w1 := ((Below.refl _ _).alloc (Nat.le_refl _) _).trans (hb0.mono (by simp)); have hf1 := (Blk.new w 142 #[.int .i64 f.kind, .int .u64 (f.min : Int), .int .u64 (f.max : Int), o]).below hb0 (by simp); clear hb0) | (go_at_call 155; refine (HT.out _ (by exact hR.below hb1)).mono ?_; rintro e w2 ⟨⟨s', rfl, hR2⟩, hg2⟩) | fail)
    go_ret2
    exact ⟨⟨s', rfl, hR2⟩, grown_transB (grows_below hb1 _) hg2⟩
end Go.Proofs.YtbegphfideopoaaGreat
