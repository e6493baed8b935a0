/-
  What is proved here: bytes of a record tell the record: of two unlike records of the same fields none's bytes are the beginning of the other's.
  Conditions: bounds of fields have 64 bits.
-/
import Derived.Test.YtpebjocmnojldaaDoorJPackPure2
namespace Go.Proofs.YtpebjocmnojldaaDoor

/-- All bounds have 64 bits, so many lists deep. -/
def Fwf : Nat → List Fld → Prop
  | 0, _ => True
  | r + 1, l => ∀ f ∈ l, f.max < 18446744073709551616 ∧ Fwf r f.of
theorem wid_lt (n : Nat) (h : n < 18446744073709551616) : n < 256 ^ wid n := by
  unfold wid
  split
  · omega
  split
  · omega
  split
  · omega
  split
  · omega
  split
  · omega
  split
  · omega
  split
  · omega
  · omega
theorem leN_inj : ∀ (k n m : Nat) (s t : List UInt8), n < 256 ^ k → m < 256 ^ k → leN n k ++ s = leN m k ++ t → n = m ∧ s = t
  | 0, n, m, s, t, h1, h2, h => by
    simp [leN] at h
    exact ⟨by omega, h⟩
  | k + 1, n, m, s, t, h1, h2, h => by
    simp only [leN, List.cons_append, List.cons.injEq] at h
    rw [Nat.pow_succ] at h1 h2
    obtain ⟨h3, h4⟩ := h
    obtain ⟨h5, h6⟩ := leN_inj k (n / 256) (m / 256) s t (by omega) (by omega) h4
    have e : (UInt8.ofNat (n % 256)).toNat = (UInt8.ofNat (m % 256)).toNat := by rw [h3]
    have e1 : ∀ z : Nat, (UInt8.ofNat (z % 256)).toNat = z % 256 % 256 := fun z => by simp
    rw [e1, e1] at e
    exact ⟨by omega, h6⟩
theorem catO_inj {E : List Val → Option (List UInt8)} (hE : ∀ a b p q s t, E a = some p → E b = some q → p ++ s = q ++ t → a = b ∧ s = t) : ∀ (A B : List (List Val)) (p q s t : List UInt8), A.length = B.length → catO (A.map E) = some p → catO (B.map E) = some q → p ++ s = q ++ t → A = B ∧ s = t
  | [], [], p, q, s, t, _, hp, hq, h => by
    simp [catO] at hp hq
    subst hp
    subst hq
    exact ⟨rfl, by simpa using h⟩
  | [], _ :: _, _, _, _, _, h, _, _, _ => by simp at h
  | _ :: _, [], _, _, _, _, h, _, _, _ => by simp at h
  | a :: A, b :: B, p, q, s, t, hl, hp, hq, h => by
    simp only [List.map_cons] at hp hq
    cases ha : E a with
    | none => rw [ha] at hp; simp [catO] at hp
    | some pa =>
      cases hb : E b with
      | none => rw [hb] at hq; simp [catO] at hq
      | some qb =>
        rw [ha] at hp
        rw [hb] at hq
        simp only [catO] at hp hq
        obtain ⟨p', hp', rfl⟩ := Option.map_eq_some_iff.1 hp
        obtain ⟨q', hq', rfl⟩ := Option.map_eq_some_iff.1 hq
        rw [List.append_assoc, List.append_assoc] at h
        obtain ⟨e1, h2⟩ := hE a b pa qb _ _ ha hb h
        obtain ⟨e2, e3⟩ := catO_inj hE A B p' q' s t (by simpa using hl) hp' hq' h2
        exact ⟨by rw [e1, e2], e3⟩
theorem encOne_split {E : List Fld → List Val → Option (List UInt8)} {f : Fld} {x : Val} {p : List UInt8} (h : encOne E f x = some p) : ∃ n r, amountOf f x = some n ∧ f.min ≤ n ∧ n ≤ f.max ∧ catO (x.l.map (E f.of)) = some r ∧ p = leN (n - f.min) (wid (f.max - f.min)) ++ (x.b ++ r) := by
  unfold encOne at h
  split at h
  · cases h
  · rename_i n hn
    split at h
    · cases h
    · obtain ⟨r, hr, rfl⟩ := Option.map_eq_some_iff.1 h
      exact ⟨n, r, hn, by omega, by omega, hr, rfl⟩
theorem val_ext {x y : Val} (h1 : x.n = y.n) (h2 : x.b = y.b) (h3 : x.l = y.l) : x = y := by
  obtain ⟨a, b, c⟩ := x
  obtain ⟨d, e, f⟩ := y
  simp only [Val.n, Val.b, Val.l] at h1 h2 h3
  rw [h1, h2, h3]
theorem nil_of {α : Type} {l : List α} (h : l.length = 0) : l = [] := List.length_eq_zero_iff.1 h
theorem encOne_inj {E : List Fld → List Val → Option (List UInt8)} {M : List Fld → Option Nat} {f : Fld} {a0 : Nat} (hm : mostOne M f = some a0) (hf : f.max < 18446744073709551616) (hE : ∀ k, M f.of = some k → ∀ a b p q s t, E f.of a = some p → E f.of b = some q → p ++ s = q ++ t → a = b ∧ s = t) (x y : Val) (p q s t : List UInt8)
    (hp : encOne E f x = some p) (hq : encOne E f y = some q) (h : p ++ s = q ++ t) : x = y ∧ s = t := by
  obtain ⟨n, r, ha, hn1, hn2, hr, rfl⟩ := encOne_split hp
  obtain ⟨m, r', ha', hm1, hm2, hr', rfl⟩ := encOne_split hq
  have hw := wid_lt (f.max - f.min) (by omega)
  simp only [List.append_assoc] at h
  obtain ⟨e1, h2⟩ := leN_inj _ _ _ _ _ (Nat.lt_of_le_of_lt (show n - f.min ≤ f.max - f.min by omega) hw) (Nat.lt_of_le_of_lt (show m - f.min ≤ f.max - f.min by omega) hw) h
  have e2 : n = m := by omega
  subst e2
  obtain ⟨A1, A2, A3⟩ := amountOf_facts ha
  obtain ⟨B1, B2, B3⟩ := amountOf_facts ha'
  by_cases hk1 : f.kind = 1
  · obtain ⟨z1, z2, z3⟩ := A1 hk1
    obtain ⟨y1, y2, y3⟩ := B1 hk1
    have l1 := nil_of z2
    have l2 := nil_of y2
    have b1 := nil_of z1
    have b2 := nil_of y1
    rw [l1] at hr
    rw [l2] at hr'
    simp [catO] at hr hr'
    subst hr
    subst hr'
    rw [b1, b2] at h2
    exact ⟨val_ext (by omega) (by rw [b1, b2]) (by rw [l1, l2]), by simpa using h2⟩
  by_cases hk2 : f.kind = 2
  · obtain ⟨z1, z2, z3⟩ := A2 hk2
    obtain ⟨y1, y2, y3⟩ := B2 hk2
    have l1 := nil_of z2
    have l2 := nil_of y2
    rw [l1] at hr
    rw [l2] at hr'
    simp [catO] at hr hr'
    subst hr
    subst hr'
    simp only [List.nil_append] at h2
    obtain ⟨b, e⟩ := List.append_inj h2 (by omega)
    exact ⟨val_ext (by omega) b (by rw [l1, l2]), e⟩
  · obtain ⟨z1, z2, z3⟩ := A3 hk1 hk2
    obtain ⟨y1, y2, y3⟩ := B3 hk1 hk2
    have b1 := nil_of z2
    have b2 := nil_of y2
    obtain ⟨_, k, hk, _⟩ := mostOne_of hm hk1 hk2
    rw [b1, b2, List.nil_append, List.nil_append] at h2
    obtain ⟨e3, e4⟩ := catO_inj (hE k hk) x.l y.l r r' s t (by omega) hr hr' h2
    exact ⟨val_ext (by omega) (by rw [b1, b2]) e3, e4⟩
theorem zip_inj {E : List Fld → List Val → Option (List UInt8)} {M : List Fld → Option Nat} (P : List Fld → Prop) (hE : ∀ l k, M l = some k → P l → ∀ a b p q s t, E l a = some p → E l b = some q → p ++ s = q ++ t → a = b ∧ s = t) : ∀ (l : List Fld) (S : Nat) (v u : List Val) (p q s t : List UInt8), mostSum M l = some S → (∀ f ∈ l, f.max < 18446744073709551616 ∧ P f.of) → l.length = v.length → l.length = u.length → catO (List.zipWith (encOne E) l v) = some p → catO (List.zipWith (encOne E) l u) = some q → p ++ s = q ++ t → v = u ∧ s = t
  | [], S, v, u, p, q, s, t, _, _, hv, hu, hp, hq, h => by
    have e1 : v = [] := nil_of (by simpa using hv.symm)
    have e2 : u = [] := nil_of (by simpa using hu.symm)
    simp [catO] at hp hq
    subst hp
    subst hq
    exact ⟨by rw [e1, e2], by simpa using h⟩
  | f :: l, S, [], _, _, _, _, _, _, _, hv, _, _, _, _ => by simp at hv
  | f :: l, S, _ :: _, [], _, _, _, _, _, _, _, hu, _, _, _ => by simp at hu
  | f :: l, S, x :: v, y :: u, p, q, s, t, hS, hw, hv, hu, hp, hq, h => by
    rw [List.zipWith_cons_cons] at hp hq
    unfold mostSum at hS
    cases hm : mostOne M f with
    | none => rw [hm] at hS; cases hS
    | some a0 =>
      rw [hm] at hS
      obtain ⟨S', hS', _⟩ := Option.map_eq_some_iff.1 hS
      cases hx : encOne E f x with
      | none => rw [hx] at hp; simp [catO] at hp
      | some pa =>
        cases hy : encOne E f y with
        | none => rw [hy] at hq; simp [catO] at hq
        | some qb =>
          rw [hx] at hp
          rw [hy] at hq
          simp only [catO] at hp hq
          obtain ⟨p', hp', rfl⟩ := Option.map_eq_some_iff.1 hp
          obtain ⟨q', hq', rfl⟩ := Option.map_eq_some_iff.1 hq
          rw [List.append_assoc, List.append_assoc] at h
          have hwf := hw f (by simp)
          obtain ⟨e1, h2⟩ := encOne_inj hm hwf.1 (fun k hk => hE f.of k hk hwf.2) x y pa qb _ _ hx hy h
          obtain ⟨e2, e3⟩ := zip_inj P hE l S' v u p' q' s t hS' (fun g hg => hw g (by simp [hg])) (by simpa using hv) (by simpa using hu) hp' hq' h2
          exact ⟨by rw [e1, e2], e3⟩
theorem encL_inj : ∀ (r : Nat) (l : List Fld) (k : Nat), mostL r l = some k → Fwf r l → ∀ (v u : List Val) (p q s t : List UInt8), encL r l v = some p → encL r l u = some q → p ++ s = q ++ t → v = u ∧ s = t
  | 0, _, _, h, _, _, _, _, _, _, _, _, _, _ => by simp [mostL] at h
  | r + 1, l, k, h, hw, v, u, p, q, s, t, hp, hq, he => by
    obtain ⟨hS, _⟩ := mostL_succ h
    unfold encL at hp hq
    split at hp
    · split at hq
      · exact zip_inj (Fwf r) (fun l k hk hP a b p q s t h1 h2 h3 => encL_inj r l k hk hP a b p q s t h1 h2 h3) l k v u p q s t hS hw (by assumption) (by assumption) hp hq he
      · cases hq
    · cases hp
end Go.Proofs.YtpebjocmnojldaaDoor
