/-
  What is proved here: plain facts on leases: which device has one, what Grant, Renew, End, Expire do, and that they keep a table as it must be.
  Conditions: those that each fact names.
-/
import Derived.Test.YthlohlomefiebaaShaPure
namespace Go.Proofs.Ythlohlomefiebaa

/-- A lease: its number, its device, until when. -/
structure LE where
  n : Int
  d : Int
  u : Int
theorem LE.ext' {a b : LE} (h1 : a.n = b.n) (h2 : a.d = b.d) (h3 : a.u = b.u) : a = b := by
  cases a; cases b; simp only at h1 h2 h3; subst h1; subst h2; subst h3; rfl
instance : DecidableEq LE := fun a b => if h : a.n = b.n ∧ a.d = b.d ∧ a.u = b.u then isTrue (LE.ext' h.1 h.2.1 h.2.2) else isFalse (fun e => h (by subst e; exact ⟨rfl, rfl, rfl⟩))
def LE.off (e : LE) : LE := ⟨e.n, e.d, 0⟩
def noLE : LE := ⟨0, 0, 0⟩
/-- A table as it must be. -/
structure OkT (l : List LE) : Prop where
  len : l.length ≤ 20000
  num : ∀ (i : Nat) e, l[i]? = some e → e.n = (i : Int) + 1
  dev : ∀ e ∈ l, 1 ≤ e.d ∧ e.d ≤ 4096
  til : ∀ e ∈ l, 0 ≤ e.u ∧ e.u ≤ 1099512676352
  one : ∀ (i j : Nat) e f, l[i]? = some e → l[j]? = some f → 0 < e.u → 0 < f.u → e.d = f.d → i = j
theorem OkT.nil : OkT [] := ⟨by simp, (fun i e h => by simp at h), (fun e h => by simp at h), (fun e h => by simp at h), (fun i j e f h => by simp at h)⟩
/-- The open lease of a device. -/
def openD (l : List LE) (d : Int) : Option LE := l.find? (fun e => decide (e.d = d ∧ 0 < e.u))
theorem openD_some {l : List LE} {d : Int} {e : LE} (h : openD l d = some e) : e ∈ l ∧ e.d = d ∧ 0 < e.u := by
  unfold openD at h
  have h1 := List.find?_some h
  exact ⟨List.mem_of_find?_eq_some h, of_decide_eq_true h1⟩
theorem openD_none {l : List LE} {d : Int} : openD l d = none ↔ ∀ e ∈ l, ¬ (e.d = d ∧ 0 < e.u) := by
  unfold openD
  rw [List.find?_eq_none]
  constructor
  · intro h e he k
    exact h e he (decide_eq_true k)
  · intro h e he k
    exact h e he (of_decide_eq_true k)
theorem OkT.open {l : List LE} (h : OkT l) {e : LE} (he : e ∈ l) (hu : 0 < e.u) : openD l e.d = some e := by
  cases hO : openD l e.d with
  | none => exact absurd ⟨rfl, hu⟩ (openD_none.1 hO e he)
  | some f =>
    obtain ⟨h1, h2, h3⟩ := openD_some hO
    obtain ⟨i, hi⟩ := List.mem_iff_getElem?.1 he
    obtain ⟨j, hj⟩ := List.mem_iff_getElem?.1 h1
    have := h.one i j e f hi hj hu h3 h2.symm
    subst this
    rw [hi] at hj
    exact congrArg some (Option.some.inj hj).symm
theorem openD_iff {l : List LE} (h : OkT l) (d : Int) (e : LE) : openD l d = some e ↔ e ∈ l ∧ e.d = d ∧ 0 < e.u :=
  ⟨openD_some, fun ⟨h1, h2, h3⟩ => by subst h2; exact h.open h1 h3⟩
def moT (n : Int) : Bool := decide (0 ≤ n ∧ n ≤ 1099511627776)
def liT (n : Int) : Bool := decide (1 ≤ n ∧ n ≤ 1048576)
def deT (n : Int) : Bool := decide (1 ≤ n ∧ n ≤ 4096)
/-- The lease of a number; the open one of a number. -/
def atT (l : List LE) (n : Int) : Option LE := if 1 ≤ n then l[(n - 1).toNat]? else none
def opnT (l : List LE) (n : Int) : Option LE := (atT l n).bind (fun e => if 0 < e.u then some e else none)
theorem atT_some {l : List LE} {n : Int} {e : LE} (h : atT l n = some e) : ∃ i : Nat, n = (i : Int) + 1 ∧ l[i]? = some e := by
  unfold atT at h
  split at h
  · exact ⟨(n - 1).toNat, by omega, h⟩
  · cases h
theorem atT_none {l : List LE} {n : Int} (h : atT l n = none) : ¬ (1 ≤ n ∧ n ≤ (l.length : Int)) := by
  unfold atT at h
  split at h
  · rw [List.getElem?_eq_none_iff] at h
    omega
  · omega
theorem atT_at {l : List LE} {i : Nat} : atT l ((i : Int) + 1) = l[i]? := by
  unfold atT
  rw [if_pos (by omega), show ((i : Int) + 1 - 1).toNat = i by omega]
theorem opnT_some {l : List LE} {n : Int} {e : LE} (h : opnT l n = some e) : ∃ i : Nat, n = (i : Int) + 1 ∧ l[i]? = some e ∧ 0 < e.u := by
  unfold opnT at h
  cases ha : atT l n with
  | none => rw [ha] at h; cases h
  | some f =>
    rw [ha] at h
    obtain ⟨i, h1, h2⟩ := atT_some ha
    simp only [Option.bind_some] at h
    split at h
    · cases h; exact ⟨i, h1, h2, by assumption⟩
    · cases h
def grantT (l : List LE) (d now life : Int) : (LE × Int) × List LE :=
  if deT d = false ∨ moT now = false ∨ liT life = false then ((noLE, 1), l)
  else if (openD l d).isSome then ((noLE, 5), l)
  else if l.length = 20000 then ((noLE, 3), l)
  else ((⟨(l.length : Int) + 1, d, now + life⟩, 0), l ++ [⟨(l.length : Int) + 1, d, now + life⟩])
def renewT (l : List LE) (n now life : Int) : (LE × Int) × List LE :=
  if moT now = false ∨ liT life = false then ((noLE, 1), l)
  else match opnT l n with
    | none => ((noLE, 4), l)
    | some e => if e.u ≤ now then ((noLE, 9), l) else ((⟨e.n, e.d, max e.u (now + life)⟩, 0), l.set (n - 1).toNat ⟨e.n, e.d, max e.u (now + life)⟩)
def endT (l : List LE) (n : Int) : Int × List LE := match opnT l n with
  | none => (4, l)
  | some e => (0, l.set (n - 1).toNat e.off)
def overE (now : Int) (e : LE) : Bool := decide (0 < e.u ∧ e.u ≤ now)
def expT (l : List LE) (now : Int) : (List LE × Int) × List LE :=
  if moT now = false then (([], 1), l) else ((l.filter (overE now), 0), l.map (fun e => if overE now e then e.off else e))
def ofT (l : List LE) (d : Int) : LE × Bool := match openD l d with
  | some e => (e, true)
  | none => (noLE, false)
def ansAt (l : List LE) (n : Int) : LE × Int := match atT l n with
  | some e => (e, 0)
  | none => (noLE, 4)

theorem set_split {l : List LE} {i : Nat} {e : LE} (h : l[i]? = some e) (x : LE) : l = l.take i ++ e :: l.drop (i + 1) ∧ l.set i x = l.take i ++ x :: l.drop (i + 1) := by
  have hi : i < l.length := (List.getElem?_eq_some_iff.1 h).1
  have he : l[i] = e := (List.getElem?_eq_some_iff.1 h).2
  constructor
  · rw [← he, List.getElem_cons_drop, List.take_append_drop]
  · rw [List.set_eq_take_append_cons_drop, if_pos hi]
theorem mem_set {l : List LE} {i : Nat} {x y : LE} (h : y ∈ l.set i x) : y = x ∨ ∃ j, j ≠ i ∧ l[j]? = some y := by
  obtain ⟨j, hj⟩ := List.mem_iff_getElem?.1 h
  rw [List.getElem?_set] at hj
  split at hj
  · split at hj
    · exact .inl (Option.some.inj hj).symm
    · cases hj
  · exact .inr ⟨j, (fun e => by omega), hj⟩
/-- One lease turned: of the same number and device, and either ended or open as it was. -/
theorem OkT.set {l : List LE} (h : OkT l) {i : Nat} {e : LE} (he : l[i]? = some e) (u : Int) (h1 : 0 ≤ u) (h2 : u ≤ 1099512676352) (h3 : 0 < u → 0 < e.u) : OkT (l.set i ⟨e.n, e.d, u⟩) := by
  have hm : e ∈ l := List.mem_iff_getElem?.2 ⟨i, he⟩
  have hg : ∀ (j : Nat) f, (l.set i ⟨e.n, e.d, u⟩)[j]? = some f → ∃ g, l[j]? = some g ∧ f.n = g.n ∧ f.d = g.d ∧ (0 < f.u → 0 < g.u) := fun j f hf => by
    rw [List.getElem?_set] at hf
    split at hf
    · rename_i hij
      subst hij
      split at hf
      · cases hf
        exact ⟨e, he, rfl, rfl, h3⟩
      · cases hf
    · exact ⟨f, hf, rfl, rfl, id⟩
  refine ⟨by rw [List.length_set]; exact h.len, fun j f hf => ?_, fun f hf => ?_, fun f hf => ?_, fun j k f g hf hg' hfu hgu hd => ?_⟩
  · obtain ⟨g, hg1, hg2, _⟩ := hg j f hf
    rw [hg2]; exact h.num j g hg1
  · obtain ⟨j, hj⟩ := List.mem_iff_getElem?.1 hf
    obtain ⟨g, hg1, _, hg2, _⟩ := hg j f hj
    rw [hg2]; exact h.dev g (List.mem_iff_getElem?.2 ⟨j, hg1⟩)
  · rcases mem_set hf with rfl | ⟨j, _, hj⟩
    · exact ⟨h1, h2⟩
    · exact h.til f (List.mem_iff_getElem?.2 ⟨j, hj⟩)
  · obtain ⟨a, ha1, _, ha2, ha3⟩ := hg j f hf
    obtain ⟨b, hb1, _, hb2, hb3⟩ := hg k g hg'
    exact h.one j k a b ha1 hb1 (ha3 hfu) (hb3 hgu) (by rw [← ha2, ← hb2]; exact hd)
theorem OkT.snoc {l : List LE} (h : OkT l) (hl : l.length < 20000) (d u : Int) (hd : 1 ≤ d ∧ d ≤ 4096) (hu : 0 ≤ u ∧ u ≤ 1099512676352) (ho : 0 < u → openD l d = none) : OkT (l ++ [⟨(l.length : Int) + 1, d, u⟩]) := by
  have hg : ∀ (j : Nat) f, (l ++ [(⟨(l.length : Int) + 1, d, u⟩ : LE)])[j]? = some f → l[j]? = some f ∨ (j = l.length ∧ f = ⟨(l.length : Int) + 1, d, u⟩) := fun j f hf => by
    rcases Nat.lt_or_ge j l.length with hj | hj
    · rw [List.getElem?_append_left hj] at hf; exact .inl hf
    · rw [List.getElem?_append_right hj] at hf
      have : j - l.length < 1 := (List.getElem?_eq_some_iff.1 hf).1
      have hj2 : j = l.length := by omega
      subst hj2
      rw [Nat.sub_self] at hf
      cases hf
      exact .inr ⟨rfl, rfl⟩
  refine ⟨by rw [List.length_append]; show l.length + 1 ≤ _; omega, fun j f hf => ?_, fun f hf => ?_, fun f hf => ?_, fun j k f g hf hg' hfu hgu hdd => ?_⟩
  · rcases hg j f hf with h1 | ⟨rfl, rfl⟩
    · exact h.num j f h1
    · rfl
  · rcases List.mem_append.1 hf with h1 | h1
    · exact h.dev f h1
    · rw [List.mem_singleton.1 h1]; exact hd
  · rcases List.mem_append.1 hf with h1 | h1
    · exact h.til f h1
    · rw [List.mem_singleton.1 h1]; exact hu
  · rcases hg j f hf with h1 | ⟨rfl, rfl⟩
    · rcases hg k g hg' with h2 | ⟨rfl, rfl⟩
      · exact h.one j k f g h1 h2 hfu hgu hdd
      · exact absurd ⟨hdd, hfu⟩ (openD_none.1 (ho hgu) f (List.mem_iff_getElem?.2 ⟨j, h1⟩))
    · rcases hg k g hg' with h2 | ⟨rfl, rfl⟩
      · exact absurd ⟨hdd.symm, hgu⟩ (openD_none.1 (ho hfu) g (List.mem_iff_getElem?.2 ⟨k, h2⟩))
      · rfl
theorem grant_ok {l : List LE} (h : OkT l) (d now life : Int) : OkT (grantT l d now life).2 := by
  unfold grantT
  split
  · exact h
  · rename_i h1
    split
    · exact h
    · rename_i h2
      split
      · exact h
      · rename_i h3
        unfold deT moT liT at h1
        simp only [not_or, Bool.not_eq_false, decide_eq_true_eq] at h1
        refine h.snoc (by have := h.len; omega) d (now + life) h1.1 (by omega) (fun _ => ?_)
        simpa using h2
theorem renew_ok {l : List LE} (h : OkT l) (n now life : Int) : OkT (renewT l n now life).2 := by
  unfold renewT
  split
  · exact h
  · rename_i h1
    unfold moT liT at h1
    simp only [not_or, Bool.not_eq_false, decide_eq_true_eq] at h1
    split
    · exact h
    · rename_i e he
      obtain ⟨i, rfl, hi, hu⟩ := opnT_some he
      split
      · exact h
      · have ht := h.til e (List.mem_iff_getElem?.2 ⟨i, hi⟩)
        show OkT (l.set ((i : Int) + 1 - 1).toNat _)
        rw [show ((i : Int) + 1 - 1).toNat = i by omega]
        exact h.set hi _ (by omega) (by omega) (fun _ => hu)
theorem end_ok {l : List LE} (h : OkT l) (n : Int) : OkT (endT l n).2 := by
  unfold endT
  split
  · exact h
  · rename_i e he
    obtain ⟨i, rfl, hi, hu⟩ := opnT_some he
    show OkT (l.set ((i : Int) + 1 - 1).toNat _)
    rw [show ((i : Int) + 1 - 1).toNat = i by omega]
    exact h.set hi 0 (by omega) (by omega) (fun h0 => absurd h0 (by omega))
theorem map_ok {l : List LE} (h : OkT l) (p : LE → Bool) : OkT (l.map (fun e => if p e then e.off else e)) := by
  have hg : ∀ (j : Nat) f, (l.map (fun e => if p e then e.off else e))[j]? = some f → ∃ g, l[j]? = some g ∧ f.n = g.n ∧ f.d = g.d ∧ (f.u = 0 ∨ f.u = g.u) := fun j f hf => by
    rw [List.getElem?_map] at hf
    obtain ⟨g, hg, rfl⟩ := Option.map_eq_some_iff.1 hf
    refine ⟨g, hg, ?_⟩
    split
    · exact ⟨rfl, rfl, .inl rfl⟩
    · exact ⟨rfl, rfl, .inr rfl⟩
  refine ⟨by rw [List.length_map]; exact h.len, fun j f hf => ?_, fun f hf => ?_, fun f hf => ?_, fun j k f g hf hg' hfu hgu hd => ?_⟩
  · obtain ⟨g, hg1, hg2, _⟩ := hg j f hf
    rw [hg2]; exact h.num j g hg1
  · obtain ⟨j, hj⟩ := List.mem_iff_getElem?.1 hf
    obtain ⟨g, hg1, _, hg2, _⟩ := hg j f hj
    rw [hg2]; exact h.dev g (List.mem_iff_getElem?.2 ⟨j, hg1⟩)
  · obtain ⟨j, hj⟩ := List.mem_iff_getElem?.1 hf
    obtain ⟨g, hg1, _, _, hg2⟩ := hg j f hj
    have := h.til g (List.mem_iff_getElem?.2 ⟨j, hg1⟩)
    omega
  · obtain ⟨a, ha1, _, ha2, ha3⟩ := hg j f hf
    obtain ⟨b, hb1, _, hb2, hb3⟩ := hg k g hg'
    exact h.one j k a b ha1 hb1 (by omega) (by omega) (by rw [← ha2, ← hb2]; exact hd)
theorem exp_ok {l : List LE} (h : OkT l) (now : Int) : OkT (expT l now).2 := by
  unfold expT
  split
  · exact h
  · exact map_ok h _
end Go.Proofs.Ythlohlomefiebaa
