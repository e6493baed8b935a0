/-
  What is proved here: records and their fields as plain data; how many bytes fields ask for at most, and the bytes of a record, as plain functions. plain facts on the bytes of records: parts of a list, and that a record has at most as many bytes as its fields tell. bytes of a record tell the record: of two unlike records of the same fields none's bytes are the beginning of the other's. how a record is read off bytes, plain: what was encoded is read as it was, and what is read, encoded, is the bytes that were read.
  Conditions: none. bounds of fields have 64 bits. the fields may be, and bounds of fields have 64 bits.
-/
import Derived.Test.YtgfcindkfnjeoaaProg
namespace Go.Proofs.Ytgfcindkfnjeoaa

inductive Fld where
  | mk (kind : Int) (min max : Nat) (of : List Fld)
def Fld.kind : Fld → Int | .mk k _ _ _ => k
def Fld.min : Fld → Nat | .mk _ m _ _ => m
def Fld.max : Fld → Nat | .mk _ _ m _ => m
def Fld.of : Fld → List Fld | .mk _ _ _ o => o
inductive Val where
  | mk (n : Nat) (b : List UInt8) (l : List (List Val))
def Val.n : Val → Nat | .mk n _ _ => n
def Val.b : Val → List UInt8 | .mk _ b _ => b
def Val.l : Val → List (List Val) | .mk _ _ l => l
instance : Inhabited Fld := ⟨.mk 0 0 0 []⟩
instance : Inhabited Val := ⟨.mk 0 [] []⟩

/-- In how many bytes a number can be written. -/
def wid (n : Nat) : Nat := if n < 256 then 1 else if n < 65536 then 2 else if n < 16777216 then 3 else if n < 4294967296 then 4 else if n < 1099511627776 then 5 else if n < 281474976710656 then 6 else if n < 72057594037927936 then 7 else 8
theorem wid_pos (n : Nat) : 1 ≤ wid n := by unfold wid; repeat' split
                                            all_goals omega
theorem wid_le (n : Nat) : wid n ≤ 8 := by unfold wid; repeat' split
                                           all_goals omega
theorem wid_step (n : Nat) (h : 256 ≤ n) (hn : n < 18446744073709551616) : wid n = wid (n / 256) + 1 := by
  unfold wid
  repeat' split
  all_goals omega
theorem wid_small (n : Nat) (h : n < 256) : wid n = 1 := by unfold wid; rw [if_pos h]

/-- How many bytes a field asks for at most; none: it may not be. M: that of fields within. -/
def mostOne (M : List Fld → Option Nat) (f : Fld) : Option Nat :=
  if f.max < f.min then none
  else if f.kind ≠ 1 ∧ 65536 < f.max then none
  else if f.kind = 1 then (if f.of.length = 0 then some (wid (f.max - f.min)) else none)
  else if f.kind = 2 then (if f.of.length = 0 then some (wid (f.max - f.min) + f.max) else none)
  else if f.kind = 3 then (M f.of).map (fun k => wid (f.max - f.min) + f.max * k)
  else none
def mostSum (M : List Fld → Option Nat) : List Fld → Option Nat
  | [] => some 0
  | f :: r => match mostOne M f with
    | none => none
    | some a => (mostSum M r).map (a + ·)
/-- Of fields, so many lists deep at most. -/
def mostL : Nat → List Fld → Option Nat
  | 0, _ => none
  | r + 1, l => if l.length < 1 ∨ 16 < l.length then none else match mostSum (mostL r) l with
    | none => none
    | some n => if 1048576 < n then none else some n
theorem mostL_le {r : Nat} {l : List Fld} {m : Nat} (h : mostL r l = some m) : m ≤ 1048576 := by
  cases r with
  | zero => simp [mostL] at h
  | succ r =>
    unfold mostL at h
    split at h
    · cases h
    · split at h
      · cases h
      · split at h
        · cases h
        · cases h; omega
theorem mostOne_le {r : Nat} {f : Fld} {m : Nat} (h : mostOne (mostL r) f = some m) : m ≤ 68719476744 := by
  have hw := wid_le (f.max - f.min)
  unfold mostOne at h
  split at h
  · cases h
  split at h
  · cases h
  split at h
  · split at h
    · cases h; omega
    · cases h
  split at h
  · split at h
    · cases h; omega
    · cases h
  split at h
  · obtain ⟨k, hk, rfl⟩ := Option.map_eq_some_iff.1 h
    have h1 := mostL_le hk
    have h2 : f.max ≤ 65536 := by omega
    have h3 := Nat.mul_le_mul h2 h1
    omega
  · cases h

/-- The bytes of a number, the lowest first. -/
def leN : Nat → Nat → List UInt8
  | _, 0 => []
  | n, k + 1 => UInt8.ofNat (n % 256) :: leN (n / 256) k
theorem leN_len (n k : Nat) : (leN n k).length = k := by
  induction k generalizing n with
  | zero => rfl
  | succ k ih => simp [leN, ih]

/-- What a field's bounds speak of; none: there is what the kind has not. -/
def amountOf (f : Fld) (v : Val) : Option Nat :=
  if f.kind = 1 then (if v.b.length = 0 ∧ v.l.length = 0 then some v.n else none)
  else if f.kind = 2 then (if v.n = 0 ∧ v.l.length = 0 then some v.b.length else none)
  else (if v.n = 0 ∧ v.b.length = 0 then some v.l.length else none)
def catO : List (Option (List UInt8)) → Option (List UInt8)
  | [] => some []
  | none :: _ => none
  | some a :: r => (catO r).map (a ++ ·)
def encOne (E : List Fld → List Val → Option (List UInt8)) (f : Fld) (v : Val) : Option (List UInt8) :=
  match amountOf f v with
  | none => none
  | some n => if n < f.min ∨ f.max < n then none else (catO (v.l.map (E f.of))).map (fun r => leN (n - f.min) (wid (f.max - f.min)) ++ (v.b ++ r))
/-- The bytes of a record; none: it does not fit. -/
def encL : Nat → List Fld → List Val → Option (List UInt8)
  | 0, _, _ => none
  | r + 1, l, v => if l.length = v.length then catO (List.zipWith (encOne (encL r)) l v) else none

end Go.Proofs.Ytgfcindkfnjeoaa
namespace Go.Proofs.Ytgfcindkfnjeoaa

theorem catO_append (a b : List (Option (List UInt8))) : catO (a ++ b) = match catO a, catO b with
    | some x, some y => some (x ++ y)
    | _, _ => none := by
  induction a with
  | nil => simp only [List.nil_append, catO]; cases catO b <;> simp
  | cons f a ih =>
    cases f with
    | none => simp [catO]
    | some x =>
      simp only [List.cons_append, catO, ih]
      cases catO a with
      | none => simp
      | some y =>
        cases catO b with
        | none => simp
        | some z => simp
theorem catO_snoc (l : List (Option (List UInt8))) (I : Nat) (p q : List UInt8) (h : l[I]? = some (some q)) (hp : catO (l.take I) = some p) : catO (l.take (I + 1)) = some (p ++ q) := by
  rw [List.take_add_one, h, catO_append, hp]
  simp [catO]
theorem catO_none (l : List (Option (List UInt8))) (I : Nat) (h : l[I]? = some none) : catO l = none := by
  have hs : l = l.take I ++ (none :: l.drop (I + 1)) := by
    obtain ⟨h1, h2⟩ := List.getElem?_eq_some_iff.1 h
    rw [← h2, List.getElem_cons_drop, List.take_append_drop]
  rw [hs, catO_append]
  cases catO (l.take I) <;> rfl
theorem catO_len (l : List (Option (List UInt8))) (k : Nat) (h : ∀ q, some q ∈ l → q.length ≤ k) : ∀ p, catO l = some p → p.length ≤ l.length * k := by
  induction l with
  | nil => intro p hp; simp [catO] at hp; subst hp; simp
  | cons f l ih =>
    intro p hp
    cases f with
    | none => simp [catO] at hp
    | some q =>
      simp only [catO] at hp
      obtain ⟨r, hr, rfl⟩ := Option.map_eq_some_iff.1 hp
      have h1 := ih (fun q hq => h q (by simp [hq])) r hr
      have h2 := h q (by simp)
      simp [Nat.add_mul]
      omega

/-- What fields that may be are. -/
theorem mostOne_min {M : List Fld → Option Nat} {f : Fld} {a : Nat} (h : mostOne M f = some a) : f.min ≤ f.max ∧ f.max ≤ 65536 ∨ f.kind = 1 ∧ f.min ≤ f.max := by
  unfold mostOne at h
  split at h
  · cases h
  split at h
  · cases h
  rename_i h1 h2
  by_cases hk : f.kind = 1
  · exact .inr ⟨hk, by omega⟩
  · exact .inl ⟨by omega, by simp [hk] at h2; omega⟩
theorem mostOne_le' {M : List Fld → Option Nat} {f : Fld} {a : Nat} (h : mostOne M f = some a) : f.min ≤ f.max := by
  rcases mostOne_min h with h | h
  · exact h.1
  · exact h.2
theorem mostOne_of {M : List Fld → Option Nat} {f : Fld} {a : Nat} (h : mostOne M f = some a) (h1 : f.kind ≠ 1) (h2 : f.kind ≠ 2) : f.kind = 3 ∧ ∃ k, M f.of = some k ∧ a = wid (f.max - f.min) + f.max * k := by
  unfold mostOne at h
  split at h
  · cases h
  split at h
  · cases h
  split at h
  · rename_i hk
    obtain ⟨k, hk2, rfl⟩ := Option.map_eq_some_iff.1 h
    exact ⟨hk, k, hk2, rfl⟩
  · cases h
theorem mostOne_ge {M : List Fld → Option Nat} {f : Fld} {a : Nat} (h : mostOne M f = some a) : wid (f.max - f.min) ≤ a ∧ (f.kind = 2 → wid (f.max - f.min) + f.max ≤ a) := by
  unfold mostOne at h
  split at h
  · cases h
  split at h
  · cases h
  split at h
  · split at h
    · cases h
      rename_i hk _
      exact ⟨Nat.le_refl _, fun h2 => by omega⟩
    · cases h
  split at h
  · split at h
    · cases h; exact ⟨by omega, fun _ => Nat.le_refl _⟩
    · cases h
  split at h
  · obtain ⟨k, _, rfl⟩ := Option.map_eq_some_iff.1 h
    exact ⟨by omega, fun h2 => by omega⟩
  · cases h
/-- What a value that may fit has. -/
theorem amountOf_facts {f : Fld} {x : Val} {n : Nat} (h : amountOf f x = some n) : (f.kind = 1 → x.b.length = 0 ∧ x.l.length = 0 ∧ n = x.n) ∧ (f.kind = 2 → x.n = 0 ∧ x.l.length = 0 ∧ n = x.b.length) ∧ (f.kind ≠ 1 → f.kind ≠ 2 → x.n = 0 ∧ x.b.length = 0 ∧ n = x.l.length) := by
  unfold amountOf at h
  by_cases h1 : f.kind = 1
  · rw [if_pos h1] at h
    split at h
    · rename_i hh
      cases h
      exact ⟨fun _ => ⟨hh.1, hh.2, rfl⟩, fun h2 => by omega, fun h2 => absurd h1 h2⟩
    · cases h
  · rw [if_neg h1] at h
    by_cases h2 : f.kind = 2
    · rw [if_pos h2] at h
      split at h
      · rename_i hh
        cases h
        exact ⟨fun h3 => absurd h3 h1, fun _ => ⟨hh.1, hh.2, rfl⟩, fun _ h3 => absurd h2 h3⟩
      · cases h
    · rw [if_neg h2] at h
      split at h
      · rename_i hh
        cases h
        exact ⟨fun h3 => absurd h3 h1, fun h3 => absurd h3 h2, fun _ _ => ⟨hh.1, hh.2, rfl⟩⟩
      · cases h
/-- Before the records: what is put down, and how much room the records have. -/
theorem room_one {M : List Fld → Option Nat} {f : Fld} {x : Val} {a n : Nat} (h : mostOne M f = some a) (hn : amountOf f x = some n) (hx : n ≤ f.max) :
    wid (f.max - f.min) + x.b.length ≤ a ∧ (0 < x.l.length → ∃ k, M f.of = some k ∧ wid (f.max - f.min) + x.b.length + x.l.length * k ≤ a) := by
  obtain ⟨a1, a2, a3⟩ := amountOf_facts hn
  obtain ⟨g1, g2⟩ := mostOne_ge h
  by_cases h1 : f.kind = 1
  · obtain ⟨e1, e2, _⟩ := a1 h1
    exact ⟨by omega, fun h => by omega⟩
  by_cases h2 : f.kind = 2
  · obtain ⟨e1, e2, e3⟩ := a2 h2
    have := g2 h2
    exact ⟨by omega, fun h => by omega⟩
  obtain ⟨e1, e2, e3⟩ := a3 h1 h2
  obtain ⟨_, k, hk, rfl⟩ := mostOne_of h h1 h2
  refine ⟨by omega, fun _ => ⟨k, hk, ?_⟩⟩
  have := Nat.mul_le_mul_right k (show x.l.length ≤ f.max by omega)
  omega
theorem encOne_len {M : List Fld → Option Nat} {E : List Fld → List Val → Option (List UInt8)} {f : Fld} {x : Val} {a : Nat} {nb : List UInt8} (h : mostOne M f = some a) (hE : ∀ l m v q, M l = some m → E l v = some q → q.length ≤ m) (he : encOne E f x = some nb) : nb.length ≤ a := by
  unfold encOne at he
  split at he
  · cases he
  · rename_i n hn
    split at he
    · cases he
    · rename_i hb
      obtain ⟨r, hr, rfl⟩ := Option.map_eq_some_iff.1 he
      obtain ⟨r1, r2⟩ := room_one h hn (by omega)
      simp only [List.length_append, leN_len]
      rcases Nat.eq_zero_or_pos x.l.length with h0 | h0
      · have : x.l = [] := List.length_eq_zero_iff.1 h0
        rw [this] at hr
        simp [catO] at hr
        subst hr
        simp; omega
      · obtain ⟨k, hk, hle⟩ := r2 h0
        have := catO_len _ k (fun q hq => by
          obtain ⟨v, _, hv⟩ := List.mem_map.1 hq
          exact hE _ _ _ _ hk hv) r hr
        rw [List.length_map] at this
        omega
theorem zip_len {M : List Fld → Option Nat} {E : List Fld → List Val → Option (List UInt8)} (hE : ∀ l m v q, M l = some m → E l v = some q → q.length ≤ m) : ∀ (l : List Fld) (v : List Val) (S : Nat) (p : List UInt8), mostSum M l = some S → catO (List.zipWith (encOne E) l v) = some p → p.length ≤ S
  | [], v, S, p, hS, hp => by simp [catO] at hp; subst hp; simp
  | f :: l, [], S, p, hS, hp => by simp [catO] at hp; subst hp; simp
  | f :: l, x :: v, S, p, hS, hp => by
    rw [List.zipWith_cons_cons] at hp
    unfold mostSum at hS
    cases hm : mostOne M f with
    | none => rw [hm] at hS; cases hS
    | some a =>
      rw [hm] at hS
      obtain ⟨S', hS', rfl⟩ := Option.map_eq_some_iff.1 hS
      cases he : encOne E f x with
      | none => rw [he] at hp; simp [catO] at hp
      | some q =>
        rw [he] at hp
        simp only [catO] at hp
        obtain ⟨r, hr, rfl⟩ := Option.map_eq_some_iff.1 hp
        have h1 := encOne_len hm hE he
        have h2 := zip_len hE l v S' r hS' hr
        simp; omega
theorem mostL_succ {r : Nat} {l : List Fld} {m : Nat} (h : mostL (r + 1) l = some m) : mostSum (mostL r) l = some m ∧ 1 ≤ l.length ∧ l.length ≤ 16 ∧ m ≤ 1048576 := by
  have hm := mostL_le h
  unfold mostL at h
  split at h
  · cases h
  · split at h
    · cases h
    · rename_i n hn
      split at h
      · cases h
      · cases h
        exact ⟨hn, by omega, by omega, hm⟩
theorem encL_len : ∀ (r : Nat) (l : List Fld) (m : Nat) (v : List Val) (q : List UInt8), mostL r l = some m → encL r l v = some q → q.length ≤ m
  | 0, _, _, _, _, h, _ => by simp [mostL] at h
  | r + 1, l, m, v, q, h, he => by
    obtain ⟨hS, _⟩ := mostL_succ h
    unfold encL at he
    split at he
    · exact zip_len (fun l m v q h1 h2 => encL_len r l m v q h1 h2) l v m q hS he
    · cases he
end Go.Proofs.Ytgfcindkfnjeoaa
namespace Go.Proofs.Ytgfcindkfnjeoaa

/-- All bounds have 64 bits, so many lists deep. -/
def Fwf : Nat → List Fld → Prop
  | 0, _ => True
  | r + 1, l => ∀ f ∈ l, f.max < 18446744073709551616 ∧ Fwf r f.of
theorem wid_lt (n : Nat) (h : n < 18446744073709551616) : n < 256 ^ wid n := by
  unfold wid
  split
  · omega
  split
  · omega
  split
  · omega
  split
  · omega
  split
  · omega
  split
  · omega
  split
  · omega
  · omega
theorem leN_inj : ∀ (k n m : Nat) (s t : List UInt8), n < 256 ^ k → m < 256 ^ k → leN n k ++ s = leN m k ++ t → n = m ∧ s = t
  | 0, n, m, s, t, h1, h2, h => by
    simp [leN] at h
    exact ⟨by omega, h⟩
  | k + 1, n, m, s, t, h1, h2, h => by
    simp only [leN, List.cons_append, List.cons.injEq] at h
    rw [Nat.pow_succ] at h1 h2
    obtain ⟨h3, h4⟩ := h
    obtain ⟨h5, h6⟩ := leN_inj k (n / 256) (m / 256) s t (by omega) (by omega) h4
    have e : (UInt8.ofNat (n % 256)).toNat = (UInt8.ofNat (m % 256)).toNat := by rw [h3]
    have e1 : ∀ z : Nat, (UInt8.ofNat (z % 256)).toNat = z % 256 % 256 := fun z => by simp
    rw [e1, e1] at e
    exact ⟨by omega, h6⟩
theorem catO_inj {E : List Val → Option (List UInt8)} (hE : ∀ a b p q s t, E a = some p → E b = some q → p ++ s = q ++ t → a = b ∧ s = t) : ∀ (A B : List (List Val)) (p q s t : List UInt8), A.length = B.length → catO (A.map E) = some p → catO (B.map E) = some q → p ++ s = q ++ t → A = B ∧ s = t
  | [], [], p, q, s, t, _, hp, hq, h => by
    simp [catO] at hp hq
    subst hp
    subst hq
    exact ⟨rfl, by simpa using h⟩
  | [], _ :: _, _, _, _, _, h, _, _, _ => by simp at h
  | _ :: _, [], _, _, _, _, h, _, _, _ => by simp at h
  | a :: A, b :: B, p, q, s, t, hl, hp, hq, h => by
    simp only [List.map_cons] at hp hq
    cases ha : E a with
    | none => rw [ha] at hp; simp [catO] at hp
    | some pa =>
      cases hb : E b with
      | none => rw [hb] at hq; simp [catO] at hq
      | some qb =>
        rw [ha] at hp
        rw [hb] at hq
        simp only [catO] at hp hq
        obtain ⟨p', hp', rfl⟩ := Option.map_eq_some_iff.1 hp
        obtain ⟨q', hq', rfl⟩ := Option.map_eq_some_iff.1 hq
        rw [List.append_assoc, List.append_assoc] at h
        obtain ⟨e1, h2⟩ := hE a b pa qb _ _ ha hb h
        obtain ⟨e2, e3⟩ := catO_inj hE A B p' q' s t (by simpa using hl) hp' hq' h2
        exact ⟨by rw [e1, e2], e3⟩
theorem encOne_split {E : List Fld → List Val → Option (List UInt8)} {f : Fld} {x : Val} {p : List UInt8} (h : encOne E f x = some p) : ∃ n r, amountOf f x = some n ∧ f.min ≤ n ∧ n ≤ f.max ∧ catO (x.l.map (E f.of)) = some r ∧ p = leN (n - f.min) (wid (f.max - f.min)) ++ (x.b ++ r) := by
  unfold encOne at h
  split at h
  · cases h
  · rename_i n hn
    split at h
    · cases h
    · obtain ⟨r, hr, rfl⟩ := Option.map_eq_some_iff.1 h
      exact ⟨n, r, hn, by omega, by omega, hr, rfl⟩
theorem val_ext {x y : Val} (h1 : x.n = y.n) (h2 : x.b = y.b) (h3 : x.l = y.l) : x = y := by
  obtain ⟨a, b, c⟩ := x
  obtain ⟨d, e, f⟩ := y
  simp only [Val.n, Val.b, Val.l] at h1 h2 h3
  rw [h1, h2, h3]
theorem nil_of {α : Type} {l : List α} (h : l.length = 0) : l = [] := List.length_eq_zero_iff.1 h
theorem encOne_inj {E : List Fld → List Val → Option (List UInt8)} {M : List Fld → Option Nat} {f : Fld} {a0 : Nat} (hm : mostOne M f = some a0) (hf : f.max < 18446744073709551616) (hE : ∀ k, M f.of = some k → ∀ a b p q s t, E f.of a = some p → E f.of b = some q → p ++ s = q ++ t → a = b ∧ s = t) (x y : Val) (p q s t : List UInt8)
    (hp : encOne E f x = some p) (hq : encOne E f y = some q) (h : p ++ s = q ++ t) : x = y ∧ s = t := by
  obtain ⟨n, r, ha, hn1, hn2, hr, rfl⟩ := encOne_split hp
  obtain ⟨m, r', ha', hm1, hm2, hr', rfl⟩ := encOne_split hq
  have hw := wid_lt (f.max - f.min) (by omega)
  simp only [List.append_assoc] at h
  obtain ⟨e1, h2⟩ := leN_inj _ _ _ _ _ (Nat.lt_of_le_of_lt (show n - f.min ≤ f.max - f.min by omega) hw) (Nat.lt_of_le_of_lt (show m - f.min ≤ f.max - f.min by omega) hw) h
  have e2 : n = m := by omega
  subst e2
  obtain ⟨A1, A2, A3⟩ := amountOf_facts ha
  obtain ⟨B1, B2, B3⟩ := amountOf_facts ha'
  by_cases hk1 : f.kind = 1
  · obtain ⟨z1, z2, z3⟩ := A1 hk1
    obtain ⟨y1, y2, y3⟩ := B1 hk1
    have l1 := nil_of z2
    have l2 := nil_of y2
    have b1 := nil_of z1
    have b2 := nil_of y1
    rw [l1] at hr
    rw [l2] at hr'
    simp [catO] at hr hr'
    subst hr
    subst hr'
    rw [b1, b2] at h2
    exact ⟨val_ext (by omega) (by rw [b1, b2]) (by rw [l1, l2]), by simpa using h2⟩
  by_cases hk2 : f.kind = 2
  · obtain ⟨z1, z2, z3⟩ := A2 hk2
    obtain ⟨y1, y2, y3⟩ := B2 hk2
    have l1 := nil_of z2
    have l2 := nil_of y2
    rw [l1] at hr
    rw [l2] at hr'
    simp [catO] at hr hr'
    subst hr
    subst hr'
    simp only [List.nil_append] at h2
    obtain ⟨b, e⟩ := List.append_inj h2 (by omega)
    exact ⟨val_ext (by omega) b (by rw [l1, l2]), e⟩
  · obtain ⟨z1, z2, z3⟩ := A3 hk1 hk2
    obtain ⟨y1, y2, y3⟩ := B3 hk1 hk2
    have b1 := nil_of z2
    have b2 := nil_of y2
    obtain ⟨_, k, hk, _⟩ := mostOne_of hm hk1 hk2
    rw [b1, b2, List.nil_append, List.nil_append] at h2
    obtain ⟨e3, e4⟩ := catO_inj (hE k hk) x.l y.l r r' s t (by omega) hr hr' h2
    exact ⟨val_ext (by omega) (by rw [b1, b2]) e3, e4⟩
theorem zip_inj {E : List Fld → List Val → Option (List UInt8)} {M : List Fld → Option Nat} (P : List Fld → Prop) (hE : ∀ l k, M l = some k → P l → ∀ a b p q s t, E l a = some p → E l b = some q → p ++ s = q ++ t → a = b ∧ s = t) : ∀ (l : List Fld) (S : Nat) (v u : List Val) (p q s t : List UInt8), mostSum M l = some S → (∀ f ∈ l, f.max < 18446744073709551616 ∧ P f.of) → l.length = v.length → l.length = u.length → catO (List.zipWith (encOne E) l v) = some p → catO (List.zipWith (encOne E) l u) = some q → p ++ s = q ++ t → v = u ∧ s = t
  | [], S, v, u, p, q, s, t, _, _, hv, hu, hp, hq, h => by
    have e1 : v = [] := nil_of (by simpa using hv.symm)
    have e2 : u = [] := nil_of (by simpa using hu.symm)
    simp [catO] at hp hq
    subst hp
    subst hq
    exact ⟨by rw [e1, e2], by simpa using h⟩
  | f :: l, S, [], _, _, _, _, _, _, _, hv, _, _, _, _ => by simp at hv
  | f :: l, S, _ :: _, [], _, _, _, _, _, _, _, hu, _, _, _ => by simp at hu
  | f :: l, S, x :: v, y :: u, p, q, s, t, hS, hw, hv, hu, hp, hq, h => by
    rw [List.zipWith_cons_cons] at hp hq
    unfold mostSum at hS
    cases hm : mostOne M f with
    | none => rw [hm] at hS; cases hS
    | some a0 =>
      rw [hm] at hS
      obtain ⟨S', hS', _⟩ := Option.map_eq_some_iff.1 hS
      cases hx : encOne E f x with
      | none => rw [hx] at hp; simp [catO] at hp
      | some pa =>
        cases hy : encOne E f y with
        | none => rw [hy] at hq; simp [catO] at hq
        | some qb =>
          rw [hx] at hp
          rw [hy] at hq
          simp only [catO] at hp hq
          obtain ⟨p', hp', rfl⟩ := Option.map_eq_some_iff.1 hp
          obtain ⟨q', hq', rfl⟩ := Option.map_eq_some_iff.1 hq
          rw [List.append_assoc, List.append_assoc] at h
          have hwf := hw f (by simp)
          obtain ⟨e1, h2⟩ := encOne_inj hm hwf.1 (fun k hk => hE f.of k hk hwf.2) x y pa qb _ _ hx hy h
          obtain ⟨e2, e3⟩ := zip_inj P hE l S' v u p' q' s t hS' (fun g hg => hw g (by simp [hg])) (by simpa using hv) (by simpa using hu) hp' hq' h2
          exact ⟨by rw [e1, e2], e3⟩
theorem encL_inj : ∀ (r : Nat) (l : List Fld) (k : Nat), mostL r l = some k → Fwf r l → ∀ (v u : List Val) (p q s t : List UInt8), encL r l v = some p → encL r l u = some q → p ++ s = q ++ t → v = u ∧ s = t
  | 0, _, _, h, _, _, _, _, _, _, _, _, _, _ => by simp [mostL] at h
  | r + 1, l, k, h, hw, v, u, p, q, s, t, hp, hq, he => by
    obtain ⟨hS, _⟩ := mostL_succ h
    unfold encL at hp hq
    split at hp
    · split at hq
      · exact zip_inj (Fwf r) (fun l k hk hP a b p q s t h1 h2 h3 => encL_inj r l k hk hP a b p q s t h1 h2 h3) l k v u p q s t hS hw (by assumption) (by assumption) hp hq he
      · cases hq
    · cases hp
end Go.Proofs.Ytgfcindkfnjeoaa
namespace Go.Proofs.Ytgfcindkfnjeoaa

/-- The number of bytes, the lowest first. -/
def leVal : List UInt8 → Nat
  | [] => 0
  | b :: r => b.toNat + 256 * leVal r
theorem leVal_leN : ∀ (k n : Nat), n < 256 ^ k → leVal (leN n k) = n
  | 0, n, h => by simp at h; subst h; rfl
  | k + 1, n, h => by
    rw [Nat.pow_succ] at h
    simp only [leN, leVal]
    rw [leVal_leN k (n / 256) (by omega)]
    have e : (UInt8.ofNat (n % 256)).toNat = n % 256 % 256 := by simp
    rw [e]
    omega
theorem leN_leVal : ∀ s : List UInt8, leN (leVal s) s.length = s
  | [] => rfl
  | b :: r => by
    have hb := b.toNat_lt
    simp only [leVal, List.length_cons, leN]
    have h1 : (b.toNat + 256 * leVal r) % 256 = b.toNat := by omega
    have h2 : (b.toNat + 256 * leVal r) / 256 = leVal r := by omega
    rw [h1, h2, leN_leVal r]
    simp
/-- What a field's bounds speak of, read off the front. -/
def amtD (f : Fld) (s : List UInt8) : Option (Nat × List UInt8) :=
  if wid (f.max - f.min) ≤ s.length then (if f.max - f.min < leVal (s.take (wid (f.max - f.min))) then none else some (f.min + leVal (s.take (wid (f.max - f.min))), s.drop (wid (f.max - f.min)))) else none
def manyD {α : Type} (D : List UInt8 → Option (α × List UInt8)) : Nat → List UInt8 → Option (List α × List UInt8)
  | 0, s => some ([], s)
  | n + 1, s => (D s).bind fun p => (manyD D n p.2).map fun q => (p.1 :: q.1, q.2)
def oneD (D : List Fld → List UInt8 → Option (List Val × List UInt8)) (f : Fld) (s : List UInt8) : Option (Val × List UInt8) :=
  (amtD f s).bind fun p =>
    if f.kind = 1 then some (.mk p.1 [] [], p.2)
    else if f.kind = 2 then (if p.1 ≤ p.2.length then some (.mk 0 (p.2.take p.1) [], p.2.drop p.1) else none)
    else (manyD (D f.of) p.1 p.2).map fun q => (.mk 0 [] q.1, q.2)
def seqD (D : Fld → List UInt8 → Option (Val × List UInt8)) : List Fld → List UInt8 → Option (List Val × List UInt8)
  | [], s => some ([], s)
  | f :: l, s => (D f s).bind fun p => (seqD D l p.2).map fun q => (p.1 :: q.1, q.2)
/-- A record read off the front of bytes, and what is left of them; none: it is none. -/
def decL : Nat → List Fld → List UInt8 → Option (List Val × List UInt8)
  | 0, _, _ => none
  | r + 1, l, s => seqD (oneD (decL r)) l s

theorem amtD_enc {f : Fld} {s t : List UInt8} {n : Nat} (h : amtD f s = some (n, t)) (hm : f.min ≤ f.max) : f.min ≤ n ∧ n ≤ f.max ∧ s = leN (n - f.min) (wid (f.max - f.min)) ++ t := by
  unfold amtD at h
  split at h
  · rename_i hl
    split at h
    · cases h
    · simp only [Option.some.injEq, Prod.mk.injEq] at h
      obtain ⟨rfl, rfl⟩ := h
      refine ⟨by omega, by omega, ?_⟩
      rw [Nat.add_sub_cancel_left]
      have e : leN (leVal (s.take (wid (f.max - f.min)))) (wid (f.max - f.min)) = s.take (wid (f.max - f.min)) := by
        have := leN_leVal (s.take (wid (f.max - f.min)))
        rwa [List.length_take, Nat.min_eq_left hl] at this
      rw [e, List.take_append_drop]
  · cases h
theorem amtD_dec {f : Fld} {t : List UInt8} {n : Nat} (h1 : f.min ≤ n) (h2 : n ≤ f.max) (hf : f.max < 18446744073709551616) : amtD f (leN (n - f.min) (wid (f.max - f.min)) ++ t) = some (n, t) := by
  have hw := wid_lt (f.max - f.min) (by omega)
  have hl := leN_len (n - f.min) (wid (f.max - f.min))
  unfold amtD
  rw [if_pos (by rw [List.length_append, hl]; omega), List.take_left' hl, List.drop_left' hl, leVal_leN _ _ (by omega), if_neg (by omega)]
  congr 2
  omega
theorem manyD_enc {D : List UInt8 → Option (List Val × List UInt8)} {E : List Val → Option (List UInt8)} (hD : ∀ s v t, D s = some (v, t) → ∃ p, E v = some p ∧ s = p ++ t) : ∀ (n : Nat) (s t : List UInt8) (L : List (List Val)), manyD D n s = some (L, t) → L.length = n ∧ ∃ p, catO (L.map E) = some p ∧ s = p ++ t
  | 0, s, t, L, h => by
    simp only [manyD, Option.some.injEq, Prod.mk.injEq] at h
    obtain ⟨rfl, rfl⟩ := h
    exact ⟨rfl, [], rfl, rfl⟩
  | n + 1, s, t, L, h => by
    simp only [manyD] at h
    obtain ⟨⟨v, s1⟩, h1, h2⟩ := Option.bind_eq_some_iff.1 h
    obtain ⟨⟨L', t'⟩, h3, h4⟩ := Option.map_eq_some_iff.1 h2
    simp only [Prod.mk.injEq] at h4
    obtain ⟨rfl, rfl⟩ := h4
    obtain ⟨p, hp, rfl⟩ := hD _ _ _ h1
    obtain ⟨hl, q, hq, hs⟩ := manyD_enc hD n s1 t' L' h3
    refine ⟨by simp [hl], p ++ q, ?_, by rw [hs, List.append_assoc]⟩
    simp only [List.map_cons, hp, catO, hq, Option.map_some]
theorem manyD_dec {D : List UInt8 → Option (List Val × List UInt8)} {E : List Val → Option (List UInt8)} (hD : ∀ v p t, E v = some p → D (p ++ t) = some (v, t)) : ∀ (L : List (List Val)) (p t : List UInt8), catO (L.map E) = some p → manyD D L.length (p ++ t) = some (L, t)
  | [], p, t, h => by
    simp [catO] at h
    subst h
    rfl
  | v :: L, p, t, h => by
    simp only [List.map_cons] at h
    cases hv : E v with
    | none => rw [hv] at h; simp [catO] at h
    | some a =>
      rw [hv] at h
      simp only [catO] at h
      obtain ⟨q, hq, rfl⟩ := Option.map_eq_some_iff.1 h
      simp only [List.length_cons, manyD]
      rw [List.append_assoc, hD v a _ hv, Option.bind_some, manyD_dec hD L q t hq]
      rfl
theorem oneD_enc {D : List Fld → List UInt8 → Option (List Val × List UInt8)} {E : List Fld → List Val → Option (List UInt8)} {M : List Fld → Option Nat} {f : Fld} {a0 : Nat} (hm : mostOne M f = some a0) (hD : ∀ k, M f.of = some k → ∀ s v t, D f.of s = some (v, t) → ∃ p, E f.of v = some p ∧ s = p ++ t) {s t : List UInt8} {x : Val} (h : oneD D f s = some (x, t)) : ∃ p, encOne E f x = some p ∧ s = p ++ t := by
  obtain ⟨⟨n, s1⟩, h1, h2⟩ := Option.bind_eq_some_iff.1 h
  obtain ⟨g1, g2, rfl⟩ := amtD_enc h1 (mostOne_le' hm)
  simp only at h2
  have key : ∀ r, amountOf f x = some n → catO (x.l.map (E f.of)) = some r → x.b ++ r ++ t = s1 → ∃ p, encOne E f x = some p ∧ leN (n - f.min) (wid (f.max - f.min)) ++ s1 = p ++ t := fun r ha hr hs => by
    refine ⟨leN (n - f.min) (wid (f.max - f.min)) ++ (x.b ++ r), ?_, by rw [← hs]; simp⟩
    unfold encOne
    rw [ha]
    simp only
    rw [if_neg (by omega), hr]
    rfl
  by_cases k1 : f.kind = 1
  · rw [if_pos k1] at h2
    simp only [Option.some.injEq, Prod.mk.injEq] at h2
    obtain ⟨rfl, rfl⟩ := h2
    exact key [] (by unfold amountOf; simp [k1, Val.b, Val.l, Val.n]) (by simp [Val.l, catO]) (by simp [Val.b])
  rw [if_neg k1] at h2
  by_cases k2 : f.kind = 2
  · rw [if_pos k2] at h2
    split at h2
    · rename_i hl
      simp only [Option.some.injEq, Prod.mk.injEq] at h2
      obtain ⟨rfl, rfl⟩ := h2
      exact key [] (by unfold amountOf; simp [k2, Val.b, Val.l, Val.n]; omega) (by simp [Val.l, catO]) (by simp [Val.b])
    · cases h2
  rw [if_neg k2] at h2
  obtain ⟨k3, k, hk, _⟩ := mostOne_of hm k1 k2
  obtain ⟨⟨L, t'⟩, h3, h4⟩ := Option.map_eq_some_iff.1 h2
  simp only [Prod.mk.injEq] at h4
  obtain ⟨rfl, rfl⟩ := h4
  obtain ⟨hl, q, hq, hs⟩ := manyD_enc (hD k hk) n s1 t' L h3
  exact key q (by unfold amountOf; simp [k3, Val.b, Val.l, Val.n]; exact hl) (by simpa [Val.l] using hq) (by simp [Val.b, hs])
theorem oneD_dec {D : List Fld → List UInt8 → Option (List Val × List UInt8)} {E : List Fld → List Val → Option (List UInt8)} {M : List Fld → Option Nat} {f : Fld} {a0 : Nat} (hm : mostOne M f = some a0) (hf : f.max < 18446744073709551616) (hD : ∀ k, M f.of = some k → ∀ v p t, E f.of v = some p → D f.of (p ++ t) = some (v, t)) {p t : List UInt8} {x : Val} (h : encOne E f x = some p) : oneD D f (p ++ t) = some (x, t) := by
  obtain ⟨n, r, ha, g1, g2, hr, rfl⟩ := encOne_split h
  obtain ⟨A1, A2, A3⟩ := amountOf_facts ha
  unfold oneD
  rw [List.append_assoc, amtD_dec g1 g2 hf, Option.bind_some]
  simp only
  by_cases k1 : f.kind = 1
  · obtain ⟨z1, z2, z3⟩ := A1 k1
    have l1 := nil_of z2
    have b1 := nil_of z1
    rw [l1] at hr
    simp [catO] at hr
    subst hr
    rw [if_pos k1, b1]
    congr 2
    exact val_ext z3 b1.symm l1.symm
  rw [if_neg k1]
  by_cases k2 : f.kind = 2
  · obtain ⟨z1, z2, z3⟩ := A2 k2
    have l1 := nil_of z2
    rw [l1] at hr
    simp [catO] at hr
    subst hr
    rw [if_pos k2, List.append_nil, if_pos (by simp; omega), List.take_left' z3.symm, List.drop_left' z3.symm]
    congr 2
    exact val_ext z1.symm rfl l1.symm
  obtain ⟨z1, z2, z3⟩ := A3 k1 k2
  have b1 := nil_of z2
  obtain ⟨k3, k, hk, _⟩ := mostOne_of hm k1 k2
  rw [if_neg k2, b1, List.nil_append, z3, manyD_dec (hD k hk) x.l r t hr, Option.map_some]
  congr 2
  exact val_ext z1.symm b1.symm rfl
theorem seqD_enc {D : List Fld → List UInt8 → Option (List Val × List UInt8)} {E : List Fld → List Val → Option (List UInt8)} {M : List Fld → Option Nat} (hD : ∀ l k, M l = some k → ∀ s v t, D l s = some (v, t) → ∃ p, E l v = some p ∧ s = p ++ t) : ∀ (l : List Fld) (S : Nat) (v : List Val) (s t : List UInt8), mostSum M l = some S → seqD (oneD D) l s = some (v, t) → l.length = v.length ∧ ∃ p, catO (List.zipWith (encOne E) l v) = some p ∧ s = p ++ t
  | [], S, v, s, t, _, h => by
    simp only [seqD, Option.some.injEq, Prod.mk.injEq] at h
    obtain ⟨rfl, rfl⟩ := h
    exact ⟨rfl, [], rfl, rfl⟩
  | f :: l, S, v, s, t, hS, h => by
    unfold mostSum at hS
    cases hm : mostOne M f with
    | none => rw [hm] at hS; cases hS
    | some a0 =>
      rw [hm] at hS
      obtain ⟨S', hS', _⟩ := Option.map_eq_some_iff.1 hS
      simp only [seqD] at h
      obtain ⟨⟨x, s1⟩, h1, h2⟩ := Option.bind_eq_some_iff.1 h
      obtain ⟨⟨v', t'⟩, h3, h4⟩ := Option.map_eq_some_iff.1 h2
      simp only [Prod.mk.injEq] at h4
      obtain ⟨rfl, rfl⟩ := h4
      obtain ⟨p, hp, rfl⟩ := oneD_enc (E := E) hm (fun k hk => hD f.of k hk) h1
      obtain ⟨hl, q, hq, hs⟩ := seqD_enc hD l S' v' s1 t' hS' h3
      refine ⟨by simp [hl], p ++ q, ?_, by rw [hs, List.append_assoc]⟩
      rw [List.zipWith_cons_cons, hp]
      simp only [catO, hq, Option.map_some]
theorem seqD_dec {D : List Fld → List UInt8 → Option (List Val × List UInt8)} {E : List Fld → List Val → Option (List UInt8)} {M : List Fld → Option Nat} (P : List Fld → Prop) (hD : ∀ l k, M l = some k → P l → ∀ v p t, E l v = some p → D l (p ++ t) = some (v, t)) : ∀ (l : List Fld) (S : Nat) (v : List Val) (p t : List UInt8), mostSum M l = some S → (∀ f ∈ l, f.max < 18446744073709551616 ∧ P f.of) → l.length = v.length → catO (List.zipWith (encOne E) l v) = some p → seqD (oneD D) l (p ++ t) = some (v, t)
  | [], S, v, p, t, _, _, hv, h => by
    have e1 : v = [] := nil_of (by simpa using hv.symm)
    simp [catO] at h
    subst h
    rw [e1]
    rfl
  | f :: l, S, [], _, _, _, _, hv, _ => by simp at hv
  | f :: l, S, x :: v, p, t, hS, hw, hv, h => by
    rw [List.zipWith_cons_cons] at h
    unfold mostSum at hS
    cases hm : mostOne M f with
    | none => rw [hm] at hS; cases hS
    | some a0 =>
      rw [hm] at hS
      obtain ⟨S', hS', _⟩ := Option.map_eq_some_iff.1 hS
      cases hx : encOne E f x with
      | none => rw [hx] at h; simp [catO] at h
      | some a =>
        rw [hx] at h
        simp only [catO] at h
        obtain ⟨q, hq, rfl⟩ := Option.map_eq_some_iff.1 h
        have hwf := hw f (by simp)
        simp only [seqD]
        rw [List.append_assoc, oneD_dec hm hwf.1 (fun k hk => hD f.of k hk hwf.2) hx, Option.bind_some, seqD_dec P hD l S' v q t hS' (fun g hg => hw g (by simp [hg])) (by simpa using hv) hq]
        rfl
/-- What is read, encoded, is the bytes that were read. -/
theorem decL_enc : ∀ (r : Nat) (l : List Fld) (k : Nat), mostL r l = some k → ∀ (s : List UInt8) (v : List Val) (t : List UInt8), decL r l s = some (v, t) → ∃ p, encL r l v = some p ∧ s = p ++ t
  | 0, _, _, h, _, _, _, _ => by simp [mostL] at h
  | r + 1, l, k, h, s, v, t, hd => by
    obtain ⟨hS, _⟩ := mostL_succ h
    obtain ⟨hl, p, hp, hs⟩ := seqD_enc (E := encL r) (fun l k hk s v t h => decL_enc r l k hk s v t h) l k v s t hS hd
    exact ⟨p, by unfold encL; rw [if_pos hl]; exact hp, hs⟩
/-- What was encoded is read as it was. -/
theorem decL_dec : ∀ (r : Nat) (l : List Fld) (k : Nat), mostL r l = some k → Fwf r l → ∀ (v : List Val) (p t : List UInt8), encL r l v = some p → decL r l (p ++ t) = some (v, t)
  | 0, _, _, h, _, _, _, _, _ => by simp [mostL] at h
  | r + 1, l, k, h, hw, v, p, t, he => by
    obtain ⟨hS, _⟩ := mostL_succ h
    unfold encL at he
    split at he
    · exact seqD_dec (Fwf r) (fun l k hk hP v p t h => decL_dec r l k hk hP v p t h) l k v p t hS hw (by assumption) he
    · cases he

/-- One more of many. -/
theorem manyD_snoc {α : Type} (D : List UInt8 → Option (α × List UInt8)) : ∀ (n : Nat) (s : List UInt8), manyD D (n + 1) s = (manyD D n s).bind fun q => (D q.2).map fun p => (q.1 ++ [p.1], p.2)
  | 0, s => by simp only [manyD, Option.bind_some, List.nil_append]; cases D s <;> rfl
  | n + 1, s => by
    show ((D s).bind fun p => (manyD D (n + 1) p.2).map fun q => (p.1 :: q.1, q.2)) = ((D s).bind fun p => (manyD D n p.2).map fun q => (p.1 :: q.1, q.2)).bind _
    cases D s with
    | none => rfl
    | some p =>
      simp only [Option.bind_some]
      rw [manyD_snoc D n]
      cases manyD D n p.2 with
      | none => rfl
      | some q =>
        simp only [Option.bind_some, Option.map_some]
        cases D q.2 <;> rfl
theorem manyD_none {α : Type} (D : List UInt8 → Option (α × List UInt8)) (s : List UInt8) {k n : Nat} (hk : k ≤ n) (h : manyD D k s = none) : manyD D n s = none := by
  induction n with
  | zero => rw [Nat.le_zero.1 hk] at h; exact h
  | succ n ih =>
    rcases Nat.lt_or_ge k (n + 1) with h1 | h1
    · rw [manyD_snoc, ih (by omega)]; rfl
    · rw [← Nat.le_antisymm hk h1]; exact h
theorem seqD_append (D : Fld → List UInt8 → Option (Val × List UInt8)) : ∀ (a b : List Fld) (s : List UInt8), seqD D (a ++ b) s = (seqD D a s).bind fun q => (seqD D b q.2).map fun p => (q.1 ++ p.1, p.2)
  | [], b, s => by simp [seqD]
  | f :: a, b, s => by
    simp only [List.cons_append, seqD, seqD_append D a b]
    cases D f s with
    | none => rfl
    | some p =>
      simp only [Option.bind_some]
      cases seqD D a p.2 with
      | none => rfl
      | some q =>
        simp only [Option.bind_some, Option.map_some]
        cases seqD D b q.2 <;> rfl
theorem seqD_snoc (D : Fld → List UInt8 → Option (Val × List UInt8)) (l : List Fld) (I : Nat) (f : Fld) (hf : l[I]? = some f) (s : List UInt8) : seqD D (l.take (I + 1)) s = (seqD D (l.take I) s).bind fun q => (D f q.2).map fun p => (q.1 ++ [p.1], p.2) := by
  rw [List.take_add_one, hf, seqD_append]
  congr
  funext q
  simp only [Option.toList_some, seqD, Option.map_some]
  cases D f q.2 <;> rfl
theorem seqD_none (D : Fld → List UInt8 → Option (Val × List UInt8)) (l : List Fld) (I : Nat) (s : List UInt8) (h : seqD D (l.take I) s = none) : seqD D l s = none := by
  rw [← List.take_append_drop I l, seqD_append, h]
  rfl
end Go.Proofs.Ytgfcindkfnjeoaa
