/-
  What is proved here: plain facts on the bytes of records: parts of a list, and that a record has at most as many bytes as its fields tell.
  Conditions: none.
-/
import Derived.Test.YtpebjocmnojldaaDoorJPackPure
namespace Go.Proofs.YtpebjocmnojldaaDoor

theorem catO_append (a b : List (Option (List UInt8))) : catO (a ++ b) = match catO a, catO b with
    | some x, some y => some (x ++ y)
    | _, _ => none := by
  induction a with
  | nil => simp only [List.nil_append, catO]; cases catO b <;> simp
  | cons f a ih =>
    cases f with
    | none => simp [catO]
    | some x =>
      simp only [List.cons_append, catO, ih]
      cases catO a with
      | none => simp
      | some y =>
        cases catO b with
        | none => simp
        | some z => simp
theorem catO_snoc (l : List (Option (List UInt8))) (I : Nat) (p q : List UInt8) (h : l[I]? = some (some q)) (hp : catO (l.take I) = some p) : catO (l.take (I + 1)) = some (p ++ q) := by
  rw [List.take_add_one, h, catO_append, hp]
  simp [catO]
theorem catO_none (l : List (Option (List UInt8))) (I : Nat) (h : l[I]? = some none) : catO l = none := by
  have hs : l = l.take I ++ (none :: l.drop (I + 1)) := by
    obtain ⟨h1, h2⟩ := List.getElem?_eq_some_iff.1 h
    rw [← h2, List.getElem_cons_drop, List.take_append_drop]
  rw [hs, catO_append]
  cases catO (l.take I) <;> rfl
theorem catO_len (l : List (Option (List UInt8))) (k : Nat) (h : ∀ q, some q ∈ l → q.length ≤ k) : ∀ p, catO l = some p → p.length ≤ l.length * k := by
  induction l with
  | nil => intro p hp; simp [catO] at hp; subst hp; simp
  | cons f l ih =>
    intro p hp
    cases f with
    | none => simp [catO] at hp
    | some q =>
      simp only [catO] at hp
      obtain ⟨r, hr, rfl⟩ := Option.map_eq_some_iff.1 hp
      have h1 := ih (fun q hq => h q (by simp [hq])) r hr
      have h2 := h q (by simp)
      simp [Nat.add_mul]
      omega

/-- What fields that may be are. -/
theorem mostOne_min {M : List Fld → Option Nat} {f : Fld} {a : Nat} (h : mostOne M f = some a) : f.min ≤ f.max ∧ f.max ≤ 65536 ∨ f.kind = 1 ∧ f.min ≤ f.max := by
  unfold mostOne at h
  split at h
  · cases h
  split at h
  · cases h
  rename_i h1 h2
  by_cases hk : f.kind = 1
  · exact .inr ⟨hk, by omega⟩
  · exact .inl ⟨by omega, by simp [hk] at h2; omega⟩
theorem mostOne_le' {M : List Fld → Option Nat} {f : Fld} {a : Nat} (h : mostOne M f = some a) : f.min ≤ f.max := by
  rcases mostOne_min h with h | h
  · exact h.1
  · exact h.2
theorem mostOne_of {M : List Fld → Option Nat} {f : Fld} {a : Nat} (h : mostOne M f = some a) (h1 : f.kind ≠ 1) (h2 : f.kind ≠ 2) : f.kind = 3 ∧ ∃ k, M f.of = some k ∧ a = wid (f.max - f.min) + f.max * k := by
  unfold mostOne at h
  split at h
  · cases h
  split at h
  · cases h
  split at h
  · rename_i hk
    obtain ⟨k, hk2, rfl⟩ := Option.map_eq_some_iff.1 h
    exact ⟨hk, k, hk2, rfl⟩
  · cases h
theorem mostOne_ge {M : List Fld → Option Nat} {f : Fld} {a : Nat} (h : mostOne M f = some a) : wid (f.max - f.min) ≤ a ∧ (f.kind = 2 → wid (f.max - f.min) + f.max ≤ a) := by
  unfold mostOne at h
  split at h
  · cases h
  split at h
  · cases h
  split at h
  · split at h
    · cases h
      rename_i hk _
      exact ⟨Nat.le_refl _, fun h2 => by omega⟩
    · cases h
  split at h
  · split at h
    · cases h; exact ⟨by omega, fun _ => Nat.le_refl _⟩
    · cases h
  split at h
  · obtain ⟨k, _, rfl⟩ := Option.map_eq_some_iff.1 h
    exact ⟨by omega, fun h2 => by omega⟩
  · cases h
/-- What a value that may fit has. -/
theorem amountOf_facts {f : Fld} {x : Val} {n : Nat} (h : amountOf f x = some n) : (f.kind = 1 → x.b.length = 0 ∧ x.l.length = 0 ∧ n = x.n) ∧ (f.kind = 2 → x.n = 0 ∧ x.l.length = 0 ∧ n = x.b.length) ∧ (f.kind ≠ 1 → f.kind ≠ 2 → x.n = 0 ∧ x.b.length = 0 ∧ n = x.l.length) := by
  unfold amountOf at h
  by_cases h1 : f.kind = 1
  · rw [if_pos h1] at h
    split at h
    · rename_i hh
      cases h
      exact ⟨fun _ => ⟨hh.1, hh.2, rfl⟩, fun h2 => by omega, fun h2 => absurd h1 h2⟩
    · cases h
  · rw [if_neg h1] at h
    by_cases h2 : f.kind = 2
    · rw [if_pos h2] at h
      split at h
      · rename_i hh
        cases h
        exact ⟨fun h3 => absurd h3 h1, fun _ => ⟨hh.1, hh.2, rfl⟩, fun _ h3 => absurd h2 h3⟩
      · cases h
    · rw [if_neg h2] at h
      split at h
      · rename_i hh
        cases h
        exact ⟨fun h3 => absurd h3 h1, fun h3 => absurd h3 h2, fun _ _ => ⟨hh.1, hh.2, rfl⟩⟩
      · cases h
/-- Before the records: what is put down, and how much room the records have. -/
theorem room_one {M : List Fld → Option Nat} {f : Fld} {x : Val} {a n : Nat} (h : mostOne M f = some a) (hn : amountOf f x = some n) (hx : n ≤ f.max) :
    wid (f.max - f.min) + x.b.length ≤ a ∧ (0 < x.l.length → ∃ k, M f.of = some k ∧ wid (f.max - f.min) + x.b.length + x.l.length * k ≤ a) := by
  obtain ⟨a1, a2, a3⟩ := amountOf_facts hn
  obtain ⟨g1, g2⟩ := mostOne_ge h
  by_cases h1 : f.kind = 1
  · obtain ⟨e1, e2, _⟩ := a1 h1
    exact ⟨by omega, fun h => by omega⟩
  by_cases h2 : f.kind = 2
  · obtain ⟨e1, e2, e3⟩ := a2 h2
    have := g2 h2
    exact ⟨by omega, fun h => by omega⟩
  obtain ⟨e1, e2, e3⟩ := a3 h1 h2
  obtain ⟨_, k, hk, rfl⟩ := mostOne_of h h1 h2
  refine ⟨by omega, fun _ => ⟨k, hk, ?_⟩⟩
  have := Nat.mul_le_mul_right k (show x.l.length ≤ f.max by omega)
  omega
theorem encOne_len {M : List Fld → Option Nat} {E : List Fld → List Val → Option (List UInt8)} {f : Fld} {x : Val} {a : Nat} {nb : List UInt8} (h : mostOne M f = some a) (hE : ∀ l m v q, M l = some m → E l v = some q → q.length ≤ m) (he : encOne E f x = some nb) : nb.length ≤ a := by
  unfold encOne at he
  split at he
  · cases he
  · rename_i n hn
    split at he
    · cases he
    · rename_i hb
      obtain ⟨r, hr, rfl⟩ := Option.map_eq_some_iff.1 he
      obtain ⟨r1, r2⟩ := room_one h hn (by omega)
      simp only [List.length_append, leN_len]
      rcases Nat.eq_zero_or_pos x.l.length with h0 | h0
      · have : x.l = [] := List.length_eq_zero_iff.1 h0
        rw [this] at hr
        simp [catO] at hr
        subst hr
        simp; omega
      · obtain ⟨k, hk, hle⟩ := r2 h0
        have := catO_len _ k (fun q hq => by
          obtain ⟨v, _, hv⟩ := List.mem_map.1 hq
          exact hE _ _ _ _ hk hv) r hr
        rw [List.length_map] at this
        omega
theorem zip_len {M : List Fld → Option Nat} {E : List Fld → List Val → Option (List UInt8)} (hE : ∀ l m v q, M l = some m → E l v = some q → q.length ≤ m) : ∀ (l : List Fld) (v : List Val) (S : Nat) (p : List UInt8), mostSum M l = some S → catO (List.zipWith (encOne E) l v) = some p → p.length ≤ S
  | [], v, S, p, hS, hp => by simp [catO] at hp; subst hp; simp
  | f :: l, [], S, p, hS, hp => by simp [catO] at hp; subst hp; simp
  | f :: l, x :: v, S, p, hS, hp => by
    rw [List.zipWith_cons_cons] at hp
    unfold mostSum at hS
    cases hm : mostOne M f with
    | none => rw [hm] at hS; cases hS
    | some a =>
      rw [hm] at hS
      obtain ⟨S', hS', rfl⟩ := Option.map_eq_some_iff.1 hS
      cases he : encOne E f x with
      | none => rw [he] at hp; simp [catO] at hp
      | some q =>
        rw [he] at hp
        simp only [catO] at hp
        obtain ⟨r, hr, rfl⟩ := Option.map_eq_some_iff.1 hp
        have h1 := encOne_len hm hE he
        have h2 := zip_len hE l v S' r hS' hr
        simp; omega
theorem mostL_succ {r : Nat} {l : List Fld} {m : Nat} (h : mostL (r + 1) l = some m) : mostSum (mostL r) l = some m ∧ 1 ≤ l.length ∧ l.length ≤ 16 ∧ m ≤ 1048576 := by
  have hm := mostL_le h
  unfold mostL at h
  split at h
  · cases h
  · split at h
    · cases h
    · rename_i n hn
      split at h
      · cases h
      · cases h
        exact ⟨hn, by omega, by omega, hm⟩
theorem encL_len : ∀ (r : Nat) (l : List Fld) (m : Nat) (v : List Val) (q : List UInt8), mostL r l = some m → encL r l v = some q → q.length ≤ m
  | 0, _, _, _, _, h, _ => by simp [mostL] at h
  | r + 1, l, m, v, q, h, he => by
    obtain ⟨hS, _⟩ := mostL_succ h
    unfold encL at he
    split at he
    · exact zip_len (fun l m v q h1 h2 => encL_len r l m v q h1 h2) l v m q hS he
    · cases he
end Go.Proofs.YtpebjocmnojldaaDoor
