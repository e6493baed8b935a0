/-
  What is proved here: plain facts on datagrams: which there are, the bytes of one, and that these are its alone.
  Conditions: those that each fact names.
-/
import Derived.Test.YtpebjocmnojldaaDoorJWireRec
import Derived.Test.YtpebjocmnojldaaDoorJLinkPure
import Derived.Test.YtpebjocmnojldaaDoorJCrcOpen
namespace Go.Proofs.YtpebjocmnojldaaDoor

/-- The numbers of a datagram. -/
def dgN : List (Nat × Nat) := [(0, 4096), (0, 4096), (1, 3), (1, 1073741824), (0, 1073741824), (0, 1073741824), (0, 1073741824)]
def dgF : List Fld := recF dgN (some 1500)
theorem dg_rec : RecOk dgN (some 1500) := ⟨by decide, by decide, fun m h => by cases h; decide⟩
def dgX (f t : Int) (p : KP) : List Nat := [f.toNat, t.toNat, p.k.toNat, p.f.toNat, p.t.toNat, p.s.toNat, p.a.toNat]
def dgV (f t : Int) (p : KP) : List Val := recV (dgX f t p) (some p.b)
def nodeOk (n : Int) : Prop := 0 ≤ n ∧ n ≤ 4096
instance (n : Int) : Decidable (nodeOk n) := by unfold nodeOk; infer_instance
def dgOk (f t : Int) (p : KP) : Prop := nodeOk f ∧ nodeOk t ∧ p.ok
instance (f t : Int) (p : KP) : Decidable (dgOk f t p) := by unfold dgOk; infer_instance
/-- A text with its sum behind. -/
def sealB (x : List UInt8) : List UInt8 := x ++ sumB (crcOf x)
theorem open_sealB (x : List UInt8) : openOf (sealB x) = some x := by
  have h3 : (sumB (crcOf x)).length = 3 := rfl
  have hl : (x ++ sumB (crcOf x)).length - 3 = x.length := by simp [h3]
  have hT : (x ++ sumB (crcOf x)).take x.length = x := by simp
  unfold sealB openOf
  rw [hl, hT, if_neg (by simp [h3]), if_pos rfl]
theorem crc_sealB (x : List UInt8) : crcOf (sealB x) = 0#32 := by
  show crc _ (x ++ sumB (crcOf x)) = _
  rw [crc_append]
  exact crc_own _ (crcOf_lt x)
theorem sealB_len (x : List UInt8) : (sealB x).length = x.length + 3 := by unfold sealB; rw [List.length_append, sumB_len]
theorem open_is {b x : List UInt8} (h : openOf b = some x) : b = sealB x := by
  unfold openOf at h
  split at h
  · cases h
  · split at h
    · rename_i e
      cases h
      exact e.symm
    · cases h
def wrapO (f t : Int) (p : KP) : Option (List UInt8) := if dgOk f t p then (encTop dgF (dgV f t p)).map sealB else none
theorem dg_some {f t : Int} {p : KP} (h : dgOk f t p) : ∃ x, encTop dgF (dgV f t p) = some x ∧ x.length ≤ 1048576 ∧ wrapO f t p = some (sealB x) := by
  have hh := h
  obtain ⟨⟨f1, f2⟩, ⟨t1, t2⟩, ⟨k1, k2⟩, hb, ⟨a1, a2⟩, ⟨b1, b2⟩, ⟨c1, c2⟩, ⟨d1, d2⟩, _, _⟩ := h
  obtain ⟨x, hx⟩ := dg_rec.some (xs := dgX f t p) (bo := some p.b) ⟨⟨by simp, by omega⟩, ⟨by simp, by omega⟩, ⟨by omega, by omega⟩, ⟨by omega, by omega⟩, ⟨by simp, by omega⟩, ⟨by simp, by omega⟩, ⟨by simp, by omega⟩, trivial⟩ hb
  have hx : encTop dgF (dgV f t p) = some x := hx
  refine ⟨x, hx, dg_rec.len hx, ?_⟩
  unfold wrapO
  rw [if_pos hh, hx]
  rfl
/-- A datagram. -/
structure DG where
  f : Int
  t : Int
  p : KP
/-- The datagram that a text is, may it be or not. -/
inductive DgIs (s : List UInt8) : DG → Prop
  | mk (f t : Int) (p : KP) (h0 : 0 ≤ f ∧ 0 ≤ t ∧ 0 ≤ p.k ∧ 0 ≤ p.f ∧ 0 ≤ p.t ∧ 0 ≤ p.s ∧ 0 ≤ p.a) (hf : f ≤ 4096) (ht : t ≤ 4096) (hl : p.b.length ≤ 1500) (hm : p.k ≤ 3 ∧ p.f ≤ 1073741824 ∧ p.t ≤ 1073741824 ∧ p.s ≤ 1073741824 ∧ p.a ≤ 1073741824) (he : encTop dgF (dgV f t p) = some s) : DgIs s ⟨f, t, p⟩
theorem toNat_inj {a b : Int} (ha : 0 ≤ a) (hb : 0 ≤ b) (h : a.toNat = b.toNat) : a = b := by omega
theorem dgV_inj {f t f' t' : Int} {p p' : KP} (h0 : 0 ≤ f ∧ 0 ≤ t ∧ 0 ≤ p.k ∧ 0 ≤ p.f ∧ 0 ≤ p.t ∧ 0 ≤ p.s ∧ 0 ≤ p.a) (h1 : 0 ≤ f' ∧ 0 ≤ t' ∧ 0 ≤ p'.k ∧ 0 ≤ p'.f ∧ 0 ≤ p'.t ∧ 0 ≤ p'.s ∧ 0 ≤ p'.a) (h : dgV f t p = dgV f' t' p') : f = f' ∧ t = t' ∧ p = p' := by
  obtain ⟨e1, e2⟩ := recV_inj (by rfl) h
  obtain ⟨pk, pf, pt, ps, pa, pb⟩ := p
  obtain ⟨qk, qf, qt, qs, qa, qb⟩ := p'
  simp only [dgX, List.cons.injEq, and_true] at e1 h0 h1
  obtain ⟨x1, x2, x3, x4, x5, x6, x7⟩ := e1
  obtain ⟨a1, a2, a3, a4, a5, a6, a7⟩ := h0
  obtain ⟨b1, b2, b3, b4, b5, b6, b7⟩ := h1
  cases toNat_inj a1 b1 x1
  cases toNat_inj a2 b2 x2
  cases toNat_inj a3 b3 x3
  cases toNat_inj a4 b4 x4
  cases toNat_inj a5 b5 x5
  cases toNat_inj a6 b6 x6
  cases toNat_inj a7 b7 x7
  cases e2
  exact ⟨rfl, rfl, rfl⟩
theorem dg_dec {s : List UInt8} {v : List Val} (h : decTop dgF s = .ok v) : ∃ f t p, v = dgV f t p ∧ DgIs s ⟨f, t, p⟩ := by
  obtain ⟨xs, bo, rfl, h1, h2, h3⟩ := dg_rec.dec h
  match xs, bo, h1, h2 with
  | [x0, x1, x2, x3, x4, x5, x6], some b, h1, h2 =>
    have e : recV [x0, x1, x2, x3, x4, x5, x6] (some b) = dgV x0 x1 ⟨x2, x3, x4, x5, x6, b⟩ := by
      unfold dgV dgX
      simp
    have h2 : b.length ≤ 1500 := h2
    have y0 : x0 ≤ 4096 := h1.1.2
    have y1 : x1 ≤ 4096 := h1.2.1.2
    have y2 : x2 ≤ 3 := h1.2.2.1.2
    have y3 : x3 ≤ 1073741824 := h1.2.2.2.1.2
    have y4 : x4 ≤ 1073741824 := h1.2.2.2.2.1.2
    have y5 : x5 ≤ 1073741824 := h1.2.2.2.2.2.1.2
    have y6 : x6 ≤ 1073741824 := h1.2.2.2.2.2.2.1.2
    refine ⟨x0, x1, ⟨x2, x3, x4, x5, x6, b⟩, e, .mk _ _ _ ?_ (by omega) (by omega) h2 ⟨by show (x2 : Int) ≤ 3; omega, by show (x3 : Int) ≤ 1073741824; omega, by show (x4 : Int) ≤ 1073741824; omega, by show (x5 : Int) ≤ 1073741824; omega, by show (x6 : Int) ≤ 1073741824; omega⟩ ?_⟩
    · simp
    · rw [← e]
      exact h3
  | [_, _, _, _, _, _, _], none, _, h2 => exact h2.elim
theorem dg_back {f t : Int} {p : KP} {s : List UInt8} (h : encTop dgF (dgV f t p) = some s) : decTop dgF s = .ok (dgV f t p) := dg_rec.back h
theorem dg_err {s : List UInt8} {c : Int} (h : decTop dgF s = .error c) : c = 2 ∧ ∀ v, encTop dgF v ≠ some s := dg_rec.err h
/-- The datagram of which bytes are the Wrap. -/
def unwIs (b : List UInt8) (o : Option DG) : Prop := match o with
  | some d => dgOk d.f d.t d.p ∧ wrapO d.f d.t d.p = some b
  | none => ∀ f t p, wrapO f t p ≠ some b
theorem wrapO_inj {f t f' t' : Int} {p p' : KP} {b : List UInt8} (h : wrapO f t p = some b) (h' : wrapO f' t' p' = some b) : f = f' ∧ t = t' ∧ p = p' := by
  unfold wrapO at h h'
  split at h
  rotate_left
  · cases h
  split at h'
  rotate_left
  · cases h'
  rename_i hd hd'
  obtain ⟨x, hx, rfl⟩ := Option.map_eq_some_iff.1 h
  obtain ⟨y, hy, e⟩ := Option.map_eq_some_iff.1 h'
  have : y = x := by
    have h1 := open_sealB x
    rw [← e, open_sealB y] at h1
    exact Option.some.inj h1
  subst this
  have e1 := dg_back hx
  rw [dg_back hy] at e1
  have e1 : dgV f' t' p' = dgV f t p := Except.ok.inj e1
  obtain ⟨⟨f1, _⟩, ⟨t1, _⟩, ⟨k1, _⟩, _, ⟨a1, _⟩, ⟨b1, _⟩, ⟨c1, _⟩, ⟨d1, _⟩, _, _⟩ := hd
  obtain ⟨⟨f2, _⟩, ⟨t2, _⟩, ⟨k2, _⟩, _, ⟨a2, _⟩, ⟨b2, _⟩, ⟨c2, _⟩, ⟨d2, _⟩, _, _⟩ := hd'
  obtain ⟨r1, r2, r3⟩ := dgV_inj ⟨f2, t2, by omega, by omega, b2, c2, d2⟩ ⟨f1, t1, by omega, by omega, b1, c1, d1⟩ e1
  exact ⟨r1.symm, r2.symm, r3.symm⟩
theorem unwIs_one {b : List UInt8} {o o' : Option DG} (h : unwIs b o) (h' : unwIs b o') : o = o' := by
  cases o with
  | none =>
    cases o' with
    | none => rfl
    | some d => exact absurd h'.2 (h _ _ _)
  | some d =>
    cases o' with
    | none => exact absurd h.2 (h' _ _ _)
    | some d' =>
      obtain ⟨e1, e2, e3⟩ := wrapO_inj h.2 h'.2
      cases d; cases d'
      cases e1; cases e2; cases e3
      rfl
theorem unw_wrap {f t : Int} {p : KP} {b : List UInt8} {o : Option DG} (h : wrapO f t p = some b) (ho : unwIs b o) : o = some ⟨f, t, p⟩ := by
  cases o with
  | none => exact absurd h (ho _ _ _)
  | some d =>
    obtain ⟨e1, e2, e3⟩ := wrapO_inj h ho.2
    cases d
    cases e1; cases e2; cases e3
    rfl
theorem unw_crc {b : List UInt8} {d : DG} (h : unwIs b (some d)) : crcOf b = 0#32 := by
  obtain ⟨h1, h2⟩ := h
  obtain ⟨x, _, _, hx⟩ := dg_some h1
  rw [hx] at h2
  cases h2
  exact crc_sealB x
/-- How a text that is opened is told: no sum, no record, no packet that may be, or one. -/
theorem unw_closed {b : List UInt8} (h : openOf b = none) : unwIs b none := fun f t p e => by
  unfold wrapO at e
  split at e
  · obtain ⟨x, hx, rfl⟩ := Option.map_eq_some_iff.1 e
    rw [open_sealB] at h
    cases h
  · cases e
theorem unw_norec {b x : List UInt8} {c : Int} (h : openOf b = some x) (hd : decTop dgF x = .error c) : unwIs b none := fun f t p e => by
  unfold wrapO at e
  split at e
  · obtain ⟨y, hy, rfl⟩ := Option.map_eq_some_iff.1 e
    rw [open_sealB] at h
    cases h
    exact (dg_err hd).2 _ hy
  · cases e
theorem unw_bad {b x : List UInt8} {d : DG} (h : openOf b = some x) (hd : DgIs x d) (hp : rightK d.p = false) : unwIs b none := fun f t p e => by
  unfold wrapO at e
  split at e
  rotate_left
  · cases e
  rename_i ho
  obtain ⟨y, hy, rfl⟩ := Option.map_eq_some_iff.1 e
  rw [open_sealB] at h
  cases h
  obtain ⟨f', t', p', h0, _, _, _, _, he⟩ := hd
  have e1 := dg_back hy
  rw [dg_back he] at e1
  obtain ⟨⟨f1, _⟩, ⟨t1, _⟩, hok⟩ := ho
  have ⟨⟨k1, _⟩, _, ⟨a1, _⟩, ⟨b1, _⟩, ⟨c1, _⟩, ⟨d1, _⟩, _, _⟩ := hok
  obtain ⟨_, _, r3⟩ := dgV_inj h0 ⟨f1, t1, by omega, by omega, b1, c1, d1⟩ (Except.ok.inj e1)
  have hp : decide p'.ok = false := hp
  rw [r3, decide_eq_true hok] at hp
  cases hp
theorem unw_good {b x : List UInt8} {d : DG} (h : openOf b = some x) (hd : DgIs x d) (hp : rightK d.p = true) : unwIs b (some d) := by
  obtain ⟨f, t, p, h0, hf, ht, _, _, he⟩ := hd
  have hok : p.ok := of_decide_eq_true hp
  have hd : dgOk f t p := ⟨⟨h0.1, hf⟩, ⟨h0.2.1, ht⟩, hok⟩
  refine ⟨hd, ?_⟩
  show wrapO f t p = some b
  unfold wrapO
  rw [if_pos hd, he, open_is h]
  rfl
end Go.Proofs.YtpebjocmnojldaaDoor
