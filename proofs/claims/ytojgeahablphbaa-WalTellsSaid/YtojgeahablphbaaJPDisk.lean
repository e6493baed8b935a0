/-
  What is proved here: plain facts on the program's disk as it lies in memory: its sectors in one row, the dirty ones in a map.
  Conditions: those that each fact names.
-/
import Derived.Test.YtojgeahablphbaaJChgWorld
import Derived.Test.YtojgeahablphbaaJDiskPure
import Derived.Test.YtojgeahablphbaaJDiskInts
import Derived.Test.YtojgeahablphbaaJBlkMid
import Derived.Maps.RangeWalk
import Derived.Shelf.SlIterI.Nil
import Derived.Shelf.SortM.Plain
namespace Go.Proofs.Ytojgeahablphbaa
open Go.RowKit Go.Maps

theorem v8_inj {x y : UInt8} (h : v8 x = v8 y) : x = y := by
  have h1 : n8 x = n8 y := by injection h
  unfold n8 at h1
  exact UInt8.toNat_inj.1 (by omega)
theorem map_v8_inj : ∀ {a b : List UInt8}, a.map v8 = b.map v8 → a = b
  | [], [], _ => rfl
  | [], _ :: _, h => by cases h
  | _ :: _, [], h => by cases h
  | x :: a, y :: b, h => by
    rw [List.map_cons, List.map_cons] at h
    injection h with h1 h2
    rw [v8_inj h1, map_v8_inj h2]
/-- The cells of a sector, and its value. -/
def secC (bs : List UInt8) : Array Value := (bs.map v8).toArray
def secV (bs : List UInt8) : Value := .agg (secC bs)
theorem secV_inj {a b : List UInt8} (h : secV a = secV b) : a = b := by
  unfold secV secC at h
  injection h with h
  exact map_v8_inj (by simpa using h)
open Classical in
/-- How a sector in a map reads. -/
noncomputable def secR (v : Value) : Option (DataW Unit × List MemPlace) := if h : ∃ bs : List UInt8, bs.length = 128 ∧ v = secV bs then some (.lit (.string h.choose), []) else none
theorem secR_mk (bs : List UInt8) (h : bs.length = 128) : secR (secV bs) = some (.lit (.string bs), []) := by
  have hx : ∃ b : List UInt8, b.length = 128 ∧ secV bs = secV b := ⟨bs, h, rfl⟩
  unfold secR
  rw [dif_pos hx, ← secV_inj hx.choose_spec.2]
theorem secR_inv {v : Value} {z : DataW Unit × List MemPlace} (h : secR v = some z) : ∃ bs : List UInt8, bs.length = 128 ∧ v = secV bs ∧ z = (.lit (.string bs), []) := by
  unfold secR at h
  split at h
  · rename_i hx
    exact ⟨_, hx.choose_spec.1, hx.choose_spec.2, (Option.some.inj h).symm⟩
  · cases h
theorem keyI : Keyed Try.prog 3 := int_keyed Try.underlying3
theorem zeroSec (w : World) : (zeroValue 60).run Try.prog w = .ok (.agg (secC (noughts 128))) w := by kernel_rfl
theorem key_int (k : Int) (h1 : -9223372036854775808 ≤ k) (h2 : k ≤ 9223372036854775807) : keyOf Try.prog 3 (.int .i64 k) = some (.int .i64 k) := keyOf_int_mk Try.underlying3 (WalkArith.wf_i64 (by omega))

/-- Is there a dirty sector of that number? -/
def dirtB (s : DS) (q : Int) : Bool := decide (0 ≤ q) && s.dirt.getD q.toNat false
/-- What the map of the dirty sectors holds. -/
structure Holds5 (D : DataW Unit) (s : DS) : Prop where
  has : ∀ q : Int, Maps.has D (.int .i64 q) = dirtB s q
  is : ∀ k : Nat, s.dirt[k]? = some true → ∀ z, D.atKey (.int .i64 (k : Int)) z = .lit (.string (s.now.getD k []))
def MapS (w : World) (b : Nat) (s : DS) : Prop := ∃ m, ∃ D : DataW Unit, w.ownsMap Try.prog 3 secR b m D ∧ Holds5 D s

theorem dirtB_nat (s : DS) (k : Nat) : dirtB s (k : Int) = s.dirt.getD k false := by simp [dirtB]
theorem dirt_some {s : DS} {k : Nat} (h : s.dirt.getD k false = true) : s.dirt[k]? = some true := by
  rw [List.getD_eq_getElem?_getD] at h
  cases hk : s.dirt[k]? with
  | none => rw [hk] at h; cases h
  | some b => rw [hk] at h; simp at h; rw [h]

/-! ### the dirty ones, rising -/
theorem dirtyAt_mem : ∀ (l : List Bool) (i k : Nat), k ∈ dirtyAt i l ↔ i ≤ k ∧ l.getD (k - i) false = true
  | [], i, k => by simp [dirtyAt]
  | b :: l, i, k => by
    have ih := dirtyAt_mem l (i + 1) k
    have hk : k = i ∨ (i + 1 ≤ k ∧ k - i = (k - (i + 1)) + 1) ∨ k < i := by omega
    unfold dirtyAt
    cases b with
    | true =>
      simp only [if_true, List.mem_cons, ih]
      rcases hk with rfl | ⟨h1, h2⟩ | h1
      · simp
      · rw [h2, List.getD_cons_succ]
        exact ⟨fun h => by rcases h with h | ⟨_, h⟩; omega; exact ⟨by omega, h⟩, fun h => .inr ⟨h1, h.2⟩⟩
      · constructor
        · rintro (h | ⟨h, _⟩) <;> omega
        · rintro ⟨h, _⟩; omega
    | false =>
      simp only [Bool.false_eq_true, if_false, ih]
      rcases hk with rfl | ⟨h1, h2⟩ | h1
      · simp; intro h; omega
      · rw [h2, List.getD_cons_succ]
        exact ⟨fun h => ⟨by omega, h.2⟩, fun h => ⟨h1, h.2⟩⟩
      · constructor
        · rintro ⟨h, _⟩; omega
        · rintro ⟨h, _⟩; omega
theorem dirtyAt_rises : ∀ (l : List Bool) (i : Nat), (dirtyAt i l).Pairwise (· < ·)
  | [], _ => List.Pairwise.nil
  | b :: l, i => by
    have ih := dirtyAt_rises l (i + 1)
    unfold dirtyAt
    split
    · refine List.pairwise_cons.2 ⟨fun k hk => ?_, ih⟩
      have := ((dirtyAt_mem l (i + 1) k).1 hk).1
      omega
    · exact ih
def dirtyI (s : DS) : List Int := (dirtyS s).map fun (k : Nat) => (k : Int)
theorem Holds5.perm {w : World} {b m : Nat} {D : DataW Unit} {s : DS} (h : Holds5 D s) (hown : w.ownsMap Try.prog 3 secR b m D) : (dirtyI s).Perm (intKeys D) := by
  obtain ⟨es, hD, hpw, _⟩ := hown.entries keyI
  obtain ⟨es', hD', hko⟩ := hown.keysOf
  obtain rfl : es = es' := by rw [hD] at hD'; simpa using hD'
  subst hD
  refine perm_intKeys hpw (fun p hp => by obtain ⟨v, hv⟩ := hko p hp; obtain ⟨x, _, hx, _⟩ := Maps.keyOf_i64 Try.underlying3 hv; exact ⟨x, hx⟩) ?_ (fun x => ?_)
  · exact List.pairwise_map.2 ((dirtyAt_rises s.dirt 0).imp (fun h => by omega))
  · rw [h.has x]
    unfold dirtyI dirtB
    rw [List.mem_map]
    constructor
    · rintro ⟨k, hk, rfl⟩
      have := ((dirtyAt_mem s.dirt 0 k).1 hk).2
      simpa using this
    · intro hx
      simp only [Bool.and_eq_true, decide_eq_true_eq] at hx
      exact ⟨x.toNat, (dirtyAt_mem s.dirt 0 _).2 ⟨Nat.zero_le _, by simpa using hx.2⟩, by omega⟩
theorem size_keys {D : DataW Unit} (h : IsMap D) : Maps.size D = (intKeys D).length := by
  obtain ⟨es, rfl⟩ := h
  simp [Maps.size, intKeys]
theorem Holds5.size {w : World} {b m : Nat} {D : DataW Unit} {s : DS} (h : Holds5 D s) (hown : w.ownsMap Try.prog 3 secR b m D) : Maps.size D ≤ s.dirt.length := by
  rw [size_keys hown.isMap, ← (h.perm hown).length_eq]
  unfold dirtyI
  rw [List.length_map]
  exact dirtyAt_len s.dirt 0
theorem own_size {w : World} {b m : Nat} {D : DataW Unit} (hown : w.ownsMap Try.prog 3 secR b m D) : w.ownsMap Try.prog 3 secR b (Maps.size D) D := by
  obtain ⟨es, clock, hb, F, hs, rfl⟩ := hown
  exact ⟨es, clock, hb, F, by simp [Maps.size, length_sorted], rfl⟩
theorem sort_dirty {w : World} {b m : Nat} {D : DataW Unit} {s : DS} (h : Holds5 D s) (hown : w.ownsMap Try.prog 3 secR b m D) {ss : List Int} (hp : ss.Perm (intKeys D)) : ss.mergeSort (fun x y => decide (x ≤ y)) = dirtyI s := by
  have e : ss.mergeSort leI = (dirtyI s).mergeSort leI := mergeSort_of_perm_i (hp.trans (h.perm hown).symm)
  show ss.mergeSort leI = _
  rw [e]
  apply List.mergeSort_of_pairwise
  unfold dirtyI
  refine List.pairwise_map.2 ((dirtyAt_rises s.dirt 0).imp (fun h => ?_))
  simp only [leI, decide_eq_true_eq]; omega

/-! ### rows of 128 in one -/
theorem flat_len : ∀ {rs : List (List UInt8)}, (∀ r ∈ rs, r.length = 128) → rs.flatten.length = 128 * rs.length
  | [], _ => rfl
  | r :: rs, h => by
    rw [List.flatten_cons, List.length_append, h r List.mem_cons_self, flat_len (fun q hq => h q (List.mem_cons_of_mem _ hq)), List.length_cons]; omega
theorem flat_at : ∀ {rs : List (List UInt8)}, (∀ r ∈ rs, r.length = 128) → ∀ (k : Nat) (j : Nat), k < rs.length → j < 128 → rs.flatten[128 * k + j]? = (rs.getD k [])[j]?
  | [], _, k, j, hk, _ => by cases hk
  | r :: rs, h, k, j, hk, hj => by
    have hr := h r List.mem_cons_self
    rw [List.flatten_cons]
    cases k with
    | zero => rw [List.getElem?_append_left (by omega)]; simp
    | succ k =>
      rw [List.getElem?_append_right (by omega), show 128 * (k + 1) + j - r.length = 128 * k + j by omega, flat_at (fun q hq => h q (List.mem_cons_of_mem _ hq)) k j (by simpa using hk) hj]
      simp
theorem flat_set : ∀ {rs : List (List UInt8)}, (∀ r ∈ rs, r.length = 128) → ∀ (k : Nat) (x : List UInt8), k < rs.length → x.length = 128 → rs.flatten.take (128 * k) ++ x ++ rs.flatten.drop (128 * k + 128) = (rs.set k x).flatten
  | [], _, k, _, hk, _ => by cases hk
  | r :: rs, h, k, x, hk, hx => by
    have hr := h r List.mem_cons_self
    cases k with
    | zero =>
      rw [List.set_cons_zero, List.flatten_cons, List.flatten_cons, List.drop_append_of_le_length (by omega), List.drop_of_length_le (by omega)]
      simp
    | succ k =>
      have ih := flat_set (fun q hq => h q (List.mem_cons_of_mem _ hq)) k x (by simpa using hk) hx
      rw [List.set_cons_succ, List.flatten_cons, List.flatten_cons, ← ih, List.take_append, List.drop_append, List.take_of_length_le (by omega), List.drop_of_length_le (by omega), hr, show 128 * (k + 1) - 128 = 128 * k by omega, show 128 * (k + 1) + 128 - 128 = 128 * k + 128 by omega]
      simp [List.append_assoc]
def flatV (rs : List (List UInt8)) : Array Value := (rs.flatten.map v8).toArray

/-! ### the disk -/
structure PLay where
  g : Nat
  bs : Nat
  bm : Nat
  n : Nat
  E : Nat → Prop
def PLay.T (L : PLay) (b : Nat) : Prop := b = L.g ∨ b = L.bs ∨ b = L.bm
/-- Its blocks, and others that it keeps off. -/
def PLay.U (L : PLay) (b : Nat) : Prop := L.T b ∨ L.E b
structure PLay.Ok (L : PLay) : Prop where
  gs : L.g ≠ L.bs
  gm : L.g ≠ L.bm
  sm : L.bs ≠ L.bm
  one : 1 ≤ L.n
  max : L.n ≤ 4096
def PLay.head (L : PLay) (xv : Value) (down : Bool) : Array Value := #[.slice (some ⟨L.bs, 0, none⟩) L.n L.n, .map (some L.bm), xv, .bool down]
/-- What is not dirty is as it is synced. -/
def cleanS (s : DS) : Prop := ∀ k, s.dirt[k]? = some false → s.now.getD k [] = s.sure.getD k []
structure PDisk (w : World) (L : PLay) (s : DS) : Prop where
  ok : s.ok L.n
  lay : L.Ok
  clean : cleanS s
  head : ∃ xv, Blk w L.g 52 (L.head xv s.down) ∧ SegA w L.U xv s.next
  sure : Blk w L.bs 60 (flatV s.sure)
  map : MapS w L.bm s
  av : ∀ q, L.E q → q < w.heap.size
theorem MapS.lt {w : World} {b : Nat} {s : DS} (h : MapS w b s) : b < w.heap.size := by obtain ⟨_, _, h, _⟩ := h; exact h.lt
theorem own_chg {S : Nat → Prop} {w w' : World} {b m : Nat} {D : DataW Unit} (h : w.ownsMap Try.prog 3 secR b m D) (hc : Chg S w w') (hb : ¬ S b) : w'.ownsMap Try.prog 3 secR b m D := by
  have hl := h.lt
  obtain ⟨es, clock, h1, r⟩ := h
  exact ⟨es, clock, (hc.2 b hl hb).trans h1, r⟩
theorem MapS.chg {S : Nat → Prop} {w w' : World} {b : Nat} {s : DS} (h : MapS w b s) (hc : Chg S w w') (hb : ¬ S b) : MapS w' b s := by
  obtain ⟨m, D, h1, h2⟩ := h
  exact ⟨m, D, own_chg h1 hc hb, h2⟩
theorem MapS.same {w : World} {b : Nat} {s t : DS} (h : MapS w b s) (e1 : t.dirt = s.dirt) (e2 : t.now = s.now) : MapS w b t := by
  obtain ⟨m, D, h1, h2⟩ := h
  exact ⟨m, D, h1, ⟨fun q => by rw [h2.has q]; unfold dirtB; rw [e1], fun k hk z => by rw [e1] at hk; rw [e2]; exact h2.is k hk z⟩⟩
theorem PDisk.lt {w : World} {L : PLay} {s : DS} (h : PDisk w L s) : ∀ q, L.T q → q < w.heap.size := by
  obtain ⟨xv, hb, _⟩ := h.head
  rintro q (rfl | rfl | rfl)
  · exact hb.lt
  · exact h.sure.lt
  · exact h.map.lt
theorem PDisk.ltU {w : World} {L : PLay} {s : DS} (h : PDisk w L s) : ∀ q, L.U q → q < w.heap.size := fun q hq => by rcases hq with hq | hq; exact h.lt q hq; exact h.av q hq
theorem PDisk.after {w w' : World} {L : PLay} {s : DS} (h : PDisk w L s) (hb : Below w.heap.size w w') : PDisk w' L s := by
  have hc : Chg (fun _ => False) w w' := Chg.of_below hb (Nat.le_refl _)
  have hT : Chg L.T w w' := Chg.of_below hb (Nat.le_refl _)
  obtain ⟨xv, hx, hx2⟩ := h.head
  exact ⟨h.ok, h.lay, h.clean, ⟨xv, hx.chg hc id, hx2.chg (hT.weaken (fun _ h => .inl h))⟩, h.sure.chg hc id, h.map.chg hc id, fun q hq => Nat.lt_of_lt_of_le (h.av q hq) hb.size⟩
/-- Blocks that it keeps off may change. -/
theorem PDisk.chgE {w w' : World} {L : PLay} {s : DS} {S : Nat → Prop} (h : PDisk w L s) (hc : Chg S w w') (hS : ∀ q, S q → L.E q) (hT : ∀ q, L.T q → ¬ S q) : PDisk w' L s := by
  obtain ⟨xv, hx1, hx2⟩ := h.head
  exact ⟨h.ok, h.lay, h.clean, ⟨xv, hx1.chg hc (hT _ (.inl rfl)), hx2.chg (hc.weaken (fun q hq => .inr (hS q hq)))⟩, h.sure.chg hc (hT _ (.inr (.inl rfl))), h.map.chg hc (hT _ (.inr (.inr rfl))), fun q hq => Nat.lt_of_lt_of_le (h.av q hq) hc.size⟩
/-- A disk without a plan may keep off others. -/
theorem PDisk.avoid {w : World} {L : PLay} {s : DS} (h : PDisk w L s) (hb : Blk w L.g 52 (L.head (.slice none 0 0) s.down)) (E : Nat → Prop) (hE : ∀ q, E q → q < w.heap.size) : PDisk w { L with E := E } s := by
  obtain ⟨xv, hx1, hx2⟩ := h.head
  have e : xv = .slice none 0 0 := by
    unfold Blk at hx1 hb
    rw [hb] at hx1
    injection hx1 with hx1
    injection hx1 with hx1 _
    unfold PLay.head at hx1
    simpa using hx1.symm
  subst e
  exact ⟨h.ok, ⟨h.lay.gs, h.lay.gm, h.lay.sm, h.lay.one, h.lay.max⟩, h.clean, ⟨.slice none 0 0, hx1, ⟨hx2.1, fun _ q hq => by cases hq⟩⟩, h.sure, h.map, hE⟩
/-- The head alone has changed. -/
theorem PDisk.chgHead {w w' : World} {L : PLay} {s : DS} (h : PDisk w L s) (hc : Chg (fun b => b = L.g) w w') (t : DS) (he : t.now = s.now ∧ t.sure = s.sure ∧ t.dirt = s.dirt) (xv : Value) (hb : Blk w' L.g 52 (L.head xv t.down)) (hx : SegA w' L.U xv t.next) : PDisk w' L t := by
  obtain ⟨e1, e2, e3⟩ := he
  exact ⟨⟨by rw [e1]; exact h.ok.now, by rw [e2]; exact h.ok.sure, by rw [e3]; exact h.ok.dirt, by rw [e1]; exact h.ok.nows, by rw [e2]; exact h.ok.sures⟩, h.lay, fun k hk => by rw [e1, e2]; rw [e3] at hk; exact h.clean k hk, ⟨xv, hb, hx⟩, by rw [e2]; exact h.sure.chg hc (fun e => h.lay.gs e.symm), (h.map.chg hc (fun e => h.lay.gm e.symm)).same e3 e1, fun q hq => Nat.lt_of_lt_of_le (h.av q hq) hc.size⟩
end Go.Proofs.Ytojgeahablphbaa
