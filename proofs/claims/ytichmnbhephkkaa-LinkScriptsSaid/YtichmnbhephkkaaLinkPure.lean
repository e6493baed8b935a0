/-
  What is proved here: plain facts on links and their packets: whether a packet may be; what Send, Tick and Take do.
  Conditions: those that each fact names.
-/
import Derived.Test.YtichmnbhephkkaaShaPure
namespace Go.Proofs.Ytichmnbhephkkaa

/-- A packet. -/
structure KP where
  k : Int
  f : Int
  t : Int
  s : Int
  a : Int
  b : List UInt8
def KP.ok (p : KP) : Prop := (1 ≤ p.k ∧ p.k ≤ 3) ∧ p.b.length ≤ 1500 ∧ (1 ≤ p.f ∧ p.f ≤ 1073741824) ∧ (0 ≤ p.t ∧ p.t ≤ 1073741824) ∧ (0 ≤ p.s ∧ p.s ≤ 1073741824) ∧ (0 ≤ p.a ∧ p.a ≤ 1073741824) ∧ (p.k ≠ 3 → p.s = 0 ∧ p.a = 0) ∧ (p.s = 0 → p.b.length = 0)
instance (p : KP) : Decidable p.ok := by unfold KP.ok; infer_instance
def rightK (p : KP) : Bool := decide p.ok
/-- A link. -/
structure KS where
  ep : Int
  pe : Int
  fi : Nat
  se : Nat
  ne : Nat
  ti : Nat
  wt : List (List UInt8)
structure KS.ok (s : KS) : Prop where
  ep : 1 ≤ s.ep ∧ s.ep ≤ 1073741824
  pe : 0 ≤ s.pe ∧ s.pe ≤ 1073741824
  fi : 1 ≤ s.fi ∧ s.fi ≤ 1073741825
  ne : 1 ≤ s.ne ∧ s.ne ≤ 1073741825
  se : s.se ≤ 4 ∧ s.se ≤ s.wt.length
  ti : s.ti ≤ 2
  wt : s.wt.length ≤ 16
  each : ∀ r ∈ s.wt, r.length ≤ 1500
def newK (e : Int) : KS := ⟨e, 0, 1, 0, 1, 0, []⟩
theorem newK_ok {e : Int} (h1 : 1 ≤ e) (h2 : e ≤ 1073741824) : (newK e).ok := ⟨⟨h1, h2⟩, by simp [newK], by simp [newK], by simp [newK], by simp [newK], by simp [newK], by simp [newK], by simp [newK]⟩
def sendK (s : KS) (b : List UInt8) : Int × KS := if 1500 < b.length then (1, s) else if s.wt.length = 16 then (3, s) else (0, { s with wt := s.wt ++ [b] })
def bareK (s : KS) (k : Int) : KP := ⟨k, s.ep, s.pe, 0, 0, []⟩
def ackK (s : KS) : KP := ⟨3, s.ep, s.pe, 0, (s.ne : Int) - 1, []⟩
def dataK (s : KS) (i : Nat) : KP := ⟨3, s.ep, s.pe, (s.fi : Int) + (i : Int), (s.ne : Int) - 1, s.wt.getD i []⟩
def passK (s : KS) : KS := if s.se = 0 then s else if s.ti = 2 then { s with ti := 0, se := 0 } else { s with ti := s.ti + 1 }
/-- The packets of those that wait from one on, so many. -/
def datasK (s : KS) : Nat → Nat → List KP
  | _, 0 => []
  | i, n + 1 => dataK s i :: datasK s (i + 1) n
def topK (s : KS) : Nat := min 4 s.wt.length
def tickK (s : KS) : List KP × KS := if s.pe = 0 then ([bareK s 1], s) else (datasK (passK s) (passK s).se (topK s - (passK s).se), { passK s with se := max (passK s).se (topK s) })
def meetK (s : KS) (p : Int) : KS := if s.pe < p then ⟨s.ep, p, 1, 0, 1, 0, s.wt⟩ else s
def goneK (s : KS) (a : Int) : Nat := if a < (s.fi : Int) ∨ (s.fi : Int) + (s.se : Int) ≤ a then 0 else (a - (s.fi : Int) + 1).toNat
def ackedK (s : KS) (a : Int) : KS := if goneK s a = 0 then s else { s with fi := s.fi + goneK s a, se := s.se - goneK s a, ti := 0, wt := s.wt.drop (goneK s a) }
def ackS (s : KS) (a : Int) : KS := ⟨s.ep, s.pe, s.fi + goneK s a, s.se - goneK s a, s.ne, if goneK s a = 0 then s.ti else 0, s.wt⟩
def bringK (s : KS) (p : KP) : List (List UInt8) × List KP × KS := if p.s = 0 then ([], [], s) else if p.s = (s.ne : Int) then ([p.b], [ackK { s with ne := s.ne + 1 }], { s with ne := s.ne + 1 }) else ([], [ackK s], s)
def dataTakeK (s : KS) (p : KP) : List (List UInt8) × List KP × KS := if p.t ≠ s.ep ∨ p.f ≠ s.pe then ([], [bareK s 1], s) else bringK (ackedK s p.a) p
def takeK (s : KS) (p : KP) : List (List UInt8) × List KP × KS :=
  if rightK p = false ∨ p.f < s.pe then ([], [], s) else if p.k = 1 then ([], [bareK (meetK s p.f) 2], meetK s p.f) else if p.k = 2 then ([], [], if p.t = s.ep then meetK s p.f else s) else dataTakeK s p

theorem acked_of (s : KS) (a : Int) : ackedK s a = ⟨s.ep, s.pe, (ackS s a).fi, (ackS s a).se, s.ne, (ackS s a).ti, s.wt.drop (goneK s a)⟩ := by
  unfold ackedK ackS
  split
  · rename_i h
    simp [h]
  · rename_i h
    simp
theorem datasK_len (s : KS) : ∀ (i n : Nat), (datasK s i n).length = n
  | _, 0 => rfl
  | i, n + 1 => by rw [datasK, List.length_cons, datasK_len s (i + 1) n]
theorem datasK_at (s : KS) : ∀ (i n j : Nat), j < n → (datasK s i n)[j]? = some (dataK s (i + j))
  | _, 0, _, h => absurd h (Nat.not_lt_zero _)
  | i, n + 1, 0, _ => rfl
  | i, n + 1, j + 1, h => by
    rw [datasK, List.getElem?_cons_succ, datasK_at s (i + 1) n j (by omega), show i + 1 + j = i + (j + 1) by omega]
theorem datasK_more (s : KS) : ∀ (i n : Nat), datasK s i (n + 1) = datasK s i n ++ [dataK s (i + n)]
  | i, 0 => rfl
  | i, n + 1 => by
    rw [datasK, datasK_more s (i + 1) n, show i + 1 + n = i + (n + 1) by omega]
    rfl
theorem passK_ok {s : KS} (h : s.ok) : (passK s).ok := by
  unfold passK
  split
  · exact h
  · split
    · exact ⟨h.ep, h.pe, h.fi, h.ne, ⟨Nat.zero_le _, Nat.zero_le _⟩, Nat.zero_le _, h.wt, h.each⟩
    · exact ⟨h.ep, h.pe, h.fi, h.ne, h.se, by have := h.ti; show s.ti + 1 ≤ 2; omega, h.wt, h.each⟩
theorem passK_wt (s : KS) : (passK s).wt = s.wt := by
  unfold passK
  split
  · rfl
  · split <;> rfl
theorem tickK_ok {s : KS} (h : s.ok) : (tickK s).2.ok := by
  unfold tickK
  split
  · exact h
  · have hp := passK_ok h
    exact ⟨hp.ep, hp.pe, hp.fi, hp.ne, ⟨by have := hp.se; show max _ (topK s) ≤ 4; unfold topK; omega, by have := hp.se; rw [passK_wt] at this; show max _ (topK s) ≤ (passK s).wt.length; rw [passK_wt]; unfold topK; omega⟩, hp.ti, hp.wt, hp.each⟩
theorem sendK_ok {s : KS} (h : s.ok) (b : List UInt8) : (sendK s b).2.ok := by
  unfold sendK
  split
  · exact h
  · split
    · exact h
    · have hw := h.wt
      refine ⟨h.ep, h.pe, h.fi, h.ne, ⟨h.se.1, by have := h.se.2; show s.se ≤ (s.wt ++ [b]).length; rw [List.length_append]; omega⟩, h.ti, by show (s.wt ++ [b]).length ≤ 16; rw [List.length_append, List.length_singleton]; omega, fun r hr => ?_⟩
      rcases List.mem_append.1 hr with h1 | h1
      · exact h.each r h1
      · rw [List.mem_singleton.1 h1]; omega
theorem meetK_ok {s : KS} (h : s.ok) {p : Int} (hp : p ≤ 1073741824) : (meetK s p).ok := by
  unfold meetK
  split
  · exact ⟨h.ep, ⟨by have := h.pe; show 0 ≤ p; omega, hp⟩, by simp, by simp, by simp, by simp, h.wt, h.each⟩
  · exact h
theorem meetK_wt (s : KS) (p : Int) : (meetK s p).wt = s.wt := by
  unfold meetK
  split <;> rfl
theorem goneK_le {s : KS} (a : Int) : goneK s a ≤ s.se := by
  unfold goneK
  split
  · exact Nat.zero_le _
  · omega
theorem goneK_fi {s : KS} {a : Int} (h : goneK s a ≠ 0) : (s.fi : Int) + (goneK s a : Int) = a + 1 := by
  unfold goneK at h ⊢
  split at h
  · exact absurd rfl h
  · rw [if_neg (by assumption)]
    omega
theorem ackedK_ok {s : KS} (h : s.ok) {a : Int} (ha : a ≤ 1073741824) : (ackedK s a).ok := by
  unfold ackedK
  split
  · exact h
  · rename_i h0
    have h1 := goneK_le (s := s) a
    have h2 := goneK_fi h0
    have hs := h.se
    have hf := h.fi
    have hw := h.wt
    generalize goneK s a = g at *
    refine ⟨h.ep, h.pe, ⟨by show 1 ≤ s.fi + g; omega, by show s.fi + g ≤ _; omega⟩, h.ne, ⟨by show s.se - g ≤ 4; omega, by show s.se - g ≤ (s.wt.drop g).length; rw [List.length_drop]; omega⟩, Nat.zero_le _, by show (s.wt.drop g).length ≤ 16; rw [List.length_drop]; omega, fun r hr => h.each r (List.mem_of_mem_drop hr)⟩
theorem bringK_ok {s : KS} (h : s.ok) {p : KP} (hp : p.s ≤ 1073741824) : (bringK s p).2.2.ok := by
  unfold bringK
  split
  · exact h
  · split
    · exact ⟨h.ep, h.pe, h.fi, ⟨by show 1 ≤ s.ne + 1; omega, by show s.ne + 1 ≤ _; omega⟩, h.se, h.ti, h.wt, h.each⟩
    · exact h
theorem dataTakeK_ok {s : KS} (h : s.ok) {p : KP} (hp : p.s ≤ 1073741824) (ha : p.a ≤ 1073741824) : (dataTakeK s p).2.2.ok := by
  unfold dataTakeK
  split
  · exact h
  · exact bringK_ok (ackedK_ok h ha) hp
theorem takeK_ok {s : KS} (h : s.ok) (p : KP) : (takeK s p).2.2.ok := by
  unfold takeK
  split
  · exact h
  · rename_i h0
    have hr : p.ok := by
      have : rightK p = true := by
        cases hr : rightK p with
        | true => rfl
        | false => exact absurd (.inl hr) h0
      exact of_decide_eq_true this
    obtain ⟨h1, h2, h3, h4, h5, h6, h7, h8⟩ := hr
    split
    · exact meetK_ok h h3.2
    · split
      · split
        · exact meetK_ok h h3.2
        · exact h
      · exact dataTakeK_ok h h5.2 h6.2
end Go.Proofs.Ytichmnbhephkkaa
