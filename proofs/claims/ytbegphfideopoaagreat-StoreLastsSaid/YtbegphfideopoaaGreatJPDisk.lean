/-
  What is proved here: plain facts on the program's disk as it lies in memory: its sectors in one row, the dirty ones in a map. slices.Clone on slices of bytes. the program's disk: planning, what a change meets, whether there is a sector. the program's disk: reading a sector.
  Conditions: those that each fact names. the disk lies in memory.
-/
import Derived.Test.YtbegphfideopoaaGreatJShaPure
import Derived.Test.YtbegphfideopoaaGreatJDiskPure
import Derived.Maps.RangeWalk
import Derived.Shelf.SlIterI.Nil
import Derived.Shelf.SortM.Plain
namespace Go.Proofs.YtbegphfideopoaaGreat
open Go.RowKit Go.Maps

theorem v8_inj {x y : UInt8} (h : v8 x = v8 y) : x = y := by
  have h1 : n8 x = n8 y := by injection h
  unfold n8 at h1
  exact UInt8.toNat_inj.1 (by omega)
theorem map_v8_inj : ∀ {a b : List UInt8}, a.map v8 = b.map v8 → a = b
  | [], [], _ => rfl
  | [], _ :: _, h => by cases h
  | _ :: _, [], h => by cases h
  | x :: a, y :: b, h => by
    rw [List.map_cons, List.map_cons] at h
    injection h with h1 h2
    rw [v8_inj h1, map_v8_inj h2]
/-- The cells of a sector, and its value. -/
def secC (bs : List UInt8) : Array Value := (bs.map v8).toArray
def secV (bs : List UInt8) : Value := .agg (secC bs)
theorem secV_inj {a b : List UInt8} (h : secV a = secV b) : a = b := by
  unfold secV secC at h
  injection h with h
  exact map_v8_inj (by simpa using h)
open Classical in
/-- How a sector in a map reads. -/
noncomputable def secR (v : Value) : Option (DataW Unit × List MemPlace) := if h : ∃ bs : List UInt8, bs.length = 128 ∧ v = secV bs then some (.lit (.string h.choose), []) else none
theorem secR_mk (bs : List UInt8) (h : bs.length = 128) : secR (secV bs) = some (.lit (.string bs), []) := by
  have hx : ∃ b : List UInt8, b.length = 128 ∧ secV bs = secV b := ⟨bs, h, rfl⟩
  unfold secR
  rw [dif_pos hx, ← secV_inj hx.choose_spec.2]
theorem secR_inv {v : Value} {z : DataW Unit × List MemPlace} (h : secR v = some z) : ∃ bs : List UInt8, bs.length = 128 ∧ v = secV bs ∧ z = (.lit (.string bs), []) := by
  unfold secR at h
  split at h
  · rename_i hx
    exact ⟨_, hx.choose_spec.1, hx.choose_spec.2, (Option.some.inj h).symm⟩
  · cases h
theorem keyI : Keyed Tryz.prog 3 := int_keyed Tryz.underlying3
theorem zeroSec (w : World) : (zeroValue 88).run Tryz.prog w = .ok (.agg (secC (noughts 128))) w := by kernel_rfl
theorem key_int (k : Int) (h1 : -9223372036854775808 ≤ k) (h2 : k ≤ 9223372036854775807) : keyOf Tryz.prog 3 (.int .i64 k) = some (.int .i64 k) := keyOf_int_mk Tryz.underlying3 (WalkArith.wf_i64 (by omega))

/-- Is there a dirty sector of that number? -/
def dirtB (s : DS) (q : Int) : Bool := decide (0 ≤ q) && s.dirt.getD q.toNat false
/-- What the map of the dirty sectors holds. -/
structure Holds5 (D : DataW Unit) (s : DS) : Prop where
  has : ∀ q : Int, Maps.has D (.int .i64 q) = dirtB s q
  is : ∀ k : Nat, s.dirt[k]? = some true → ∀ z, D.atKey (.int .i64 (k : Int)) z = .lit (.string (s.now.getD k []))
def MapS (w : World) (b : Nat) (s : DS) : Prop := ∃ m, ∃ D : DataW Unit, w.ownsMap Tryz.prog 3 secR b m D ∧ Holds5 D s

theorem dirtB_nat (s : DS) (k : Nat) : dirtB s (k : Int) = s.dirt.getD k false := by simp [dirtB]
theorem dirt_some {s : DS} {k : Nat} (h : s.dirt.getD k false = true) : s.dirt[k]? = some true := by
  rw [List.getD_eq_getElem?_getD] at h
  cases hk : s.dirt[k]? with
  | none => rw [hk] at h; cases h
  | some b => rw [hk] at h; simp at h; rw [h]

/-! ### the dirty ones, rising -/
theorem dirtyAt_mem : ∀ (l : List Bool) (i k : Nat), k ∈ dirtyAt i l ↔ i ≤ k ∧ l.getD (k - i) false = true
  | [], i, k => by simp [dirtyAt]
  | b :: l, i, k => by
    have ih := dirtyAt_mem l (i + 1) k
    have hk : k = i ∨ (i + 1 ≤ k ∧ k - i = (k - (i + 1)) + 1) ∨ k < i := by omega
    unfold dirtyAt
    cases b with
    | true =>
      simp only [if_true, List.mem_cons, ih]
      rcases hk with rfl | ⟨h1, h2⟩ | h1
      · simp
      · rw [h2, List.getD_cons_succ]
        exact ⟨fun h => by rcases h with h | ⟨_, h⟩; omega; exact ⟨by omega, h⟩, fun h => .inr ⟨h1, h.2⟩⟩
      · constructor
        · rintro (h | ⟨h, _⟩) <;> omega
        · rintro ⟨h, _⟩; omega
    | false =>
      simp only [Bool.false_eq_true, if_false, ih]
      rcases hk with rfl | ⟨h1, h2⟩ | h1
      · simp; intro h; omega
      · rw [h2, List.getD_cons_succ]
        exact ⟨fun h => ⟨by omega, h.2⟩, fun h => ⟨h1, h.2⟩⟩
      · constructor
        · rintro ⟨h, _⟩; omega
        · rintro ⟨h, _⟩; omega
theorem dirtyAt_rises : ∀ (l : List Bool) (i : Nat), (dirtyAt i l).Pairwise (· < ·)
  | [], _ => List.Pairwise.nil
  | b :: l, i => by
    have ih := dirtyAt_rises l (i + 1)
    unfold dirtyAt
    split
    · refine List.pairwise_cons.2 ⟨fun k hk => ?_, ih⟩
      have := ((dirtyAt_mem l (i + 1) k).1 hk).1
      omega
    · exact ih
def dirtyI (s : DS) : List Int := (dirtyS s).map fun (k : Nat) => (k : Int)
theorem Holds5.perm {w : World} {b m : Nat} {D : DataW Unit} {s : DS} (h : Holds5 D s) (hown : w.ownsMap Tryz.prog 3 secR b m D) : (dirtyI s).Perm (intKeys D) := by
  obtain ⟨es, hD, hpw, _⟩ := hown.entries keyI
  obtain ⟨es', hD', hko⟩ := hown.keysOf
  obtain rfl : es = es' := by rw [hD] at hD'; simpa using hD'
  subst hD
  refine perm_intKeys hpw (fun p hp => by obtain ⟨v, hv⟩ := hko p hp; obtain ⟨x, _, hx, _⟩ := Maps.keyOf_i64 Tryz.underlying3 hv; exact ⟨x, hx⟩) ?_ (fun x => ?_)
  · exact List.pairwise_map.2 ((dirtyAt_rises s.dirt 0).imp (fun h => by omega))
  · rw [h.has x]
    unfold dirtyI dirtB
    rw [List.mem_map]
    constructor
    · rintro ⟨k, hk, rfl⟩
      have := ((dirtyAt_mem s.dirt 0 k).1 hk).2
      simpa using this
    · intro hx
      simp only [Bool.and_eq_true, decide_eq_true_eq] at hx
      exact ⟨x.toNat, (dirtyAt_mem s.dirt 0 _).2 ⟨Nat.zero_le _, by simpa using hx.2⟩, by omega⟩
theorem size_keys {D : DataW Unit} (h : IsMap D) : Maps.size D = (intKeys D).length := by
  obtain ⟨es, rfl⟩ := h
  simp [Maps.size, intKeys]
theorem Holds5.size {w : World} {b m : Nat} {D : DataW Unit} {s : DS} (h : Holds5 D s) (hown : w.ownsMap Tryz.prog 3 secR b m D) : Maps.size D ≤ s.dirt.length := by
  rw [size_keys hown.isMap, ← (h.perm hown).length_eq]
  unfold dirtyI
  rw [List.length_map]
  exact dirtyAt_len s.dirt 0
theorem own_size {w : World} {b m : Nat} {D : DataW Unit} (hown : w.ownsMap Tryz.prog 3 secR b m D) : w.ownsMap Tryz.prog 3 secR b (Maps.size D) D := by
  obtain ⟨es, clock, hb, F, hs, rfl⟩ := hown
  exact ⟨es, clock, hb, F, by simp [Maps.size, length_sorted], rfl⟩
theorem sort_dirty {w : World} {b m : Nat} {D : DataW Unit} {s : DS} (h : Holds5 D s) (hown : w.ownsMap Tryz.prog 3 secR b m D) {ss : List Int} (hp : ss.Perm (intKeys D)) : ss.mergeSort (fun x y => decide (x ≤ y)) = dirtyI s := by
  have e : ss.mergeSort leI = (dirtyI s).mergeSort leI := mergeSort_of_perm_i (hp.trans (h.perm hown).symm)
  show ss.mergeSort leI = _
  rw [e]
  apply List.mergeSort_of_pairwise
  unfold dirtyI
  refine List.pairwise_map.2 ((dirtyAt_rises s.dirt 0).imp (fun h => ?_))
  simp only [leI, decide_eq_true_eq]; omega

/-! ### rows of 128 in one -/
theorem flat_len : ∀ {rs : List (List UInt8)}, (∀ r ∈ rs, r.length = 128) → rs.flatten.length = 128 * rs.length
  | [], _ => rfl
  | r :: rs, h => by
    rw [List.flatten_cons, List.length_append, h r List.mem_cons_self, flat_len (fun q hq => h q (List.mem_cons_of_mem _ hq)), List.length_cons]; omega
theorem flat_at : ∀ {rs : List (List UInt8)}, (∀ r ∈ rs, r.length = 128) → ∀ (k : Nat) (j : Nat), k < rs.length → j < 128 → rs.flatten[128 * k + j]? = (rs.getD k [])[j]?
  | [], _, k, j, hk, _ => by cases hk
  | r :: rs, h, k, j, hk, hj => by
    have hr := h r List.mem_cons_self
    rw [List.flatten_cons]
    cases k with
    | zero => rw [List.getElem?_append_left (by omega)]; simp
    | succ k =>
      rw [List.getElem?_append_right (by omega), show 128 * (k + 1) + j - r.length = 128 * k + j by omega, flat_at (fun q hq => h q (List.mem_cons_of_mem _ hq)) k j (by simpa using hk) hj]
      simp
theorem flat_set : ∀ {rs : List (List UInt8)}, (∀ r ∈ rs, r.length = 128) → ∀ (k : Nat) (x : List UInt8), k < rs.length → x.length = 128 → rs.flatten.take (128 * k) ++ x ++ rs.flatten.drop (128 * k + 128) = (rs.set k x).flatten
  | [], _, k, _, hk, _ => by cases hk
  | r :: rs, h, k, x, hk, hx => by
    have hr := h r List.mem_cons_self
    cases k with
    | zero =>
      rw [List.set_cons_zero, List.flatten_cons, List.flatten_cons, List.drop_append_of_le_length (by omega), List.drop_of_length_le (by omega)]
      simp
    | succ k =>
      have ih := flat_set (fun q hq => h q (List.mem_cons_of_mem _ hq)) k x (by simpa using hk) hx
      rw [List.set_cons_succ, List.flatten_cons, List.flatten_cons, ← ih, List.take_append, List.drop_append, List.take_of_length_le (by omega), List.drop_of_length_le (by omega), hr, show 128 * (k + 1) - 128 = 128 * k by omega, show 128 * (k + 1) + 128 - 128 = 128 * k + 128 by omega]
      simp [List.append_assoc]
def flatV (rs : List (List UInt8)) : Array Value := (rs.flatten.map v8).toArray

/-! ### the disk -/
structure PLay where
  g : Nat
  bs : Nat
  bm : Nat
  n : Nat
  E : Nat → Prop
def PLay.T (L : PLay) (b : Nat) : Prop := b = L.g ∨ b = L.bs ∨ b = L.bm
/-- Its blocks, and others that it keeps off. -/
def PLay.U (L : PLay) (b : Nat) : Prop := L.T b ∨ L.E b
structure PLay.Ok (L : PLay) : Prop where
  gs : L.g ≠ L.bs
  gm : L.g ≠ L.bm
  sm : L.bs ≠ L.bm
  one : 1 ≤ L.n
  max : L.n ≤ 4096
def PLay.head (L : PLay) (xv : Value) (down : Bool) : Array Value := #[.slice (some ⟨L.bs, 0, none⟩) L.n L.n, .map (some L.bm), xv, .bool down]
/-- What is not dirty is as it is synced. -/
def cleanS (s : DS) : Prop := ∀ k, s.dirt[k]? = some false → s.now.getD k [] = s.sure.getD k []
structure PDisk (w : World) (L : PLay) (s : DS) : Prop where
  ok : s.ok L.n
  lay : L.Ok
  clean : cleanS s
  head : ∃ xv, Blk w L.g 65 (L.head xv s.down) ∧ SegA w L.U xv s.next
  sure : Blk w L.bs 88 (flatV s.sure)
  map : MapS w L.bm s
  av : ∀ q, L.E q → q < w.heap.size
theorem MapS.lt {w : World} {b : Nat} {s : DS} (h : MapS w b s) : b < w.heap.size := by obtain ⟨_, _, h, _⟩ := h; exact h.lt
theorem own_chg {S : Nat → Prop} {w w' : World} {b m : Nat} {D : DataW Unit} (h : w.ownsMap Tryz.prog 3 secR b m D) (hc : Chg S w w') (hb : ¬ S b) : w'.ownsMap Tryz.prog 3 secR b m D := by
  have hl := h.lt
  obtain ⟨es, clock, h1, r⟩ := h
  exact ⟨es, clock, (hc.2 b hl hb).trans h1, r⟩
theorem MapS.chg {S : Nat → Prop} {w w' : World} {b : Nat} {s : DS} (h : MapS w b s) (hc : Chg S w w') (hb : ¬ S b) : MapS w' b s := by
  obtain ⟨m, D, h1, h2⟩ := h
  exact ⟨m, D, own_chg h1 hc hb, h2⟩
theorem MapS.same {w : World} {b : Nat} {s t : DS} (h : MapS w b s) (e1 : t.dirt = s.dirt) (e2 : t.now = s.now) : MapS w b t := by
  obtain ⟨m, D, h1, h2⟩ := h
  exact ⟨m, D, h1, ⟨fun q => by rw [h2.has q]; unfold dirtB; rw [e1], fun k hk z => by rw [e1] at hk; rw [e2]; exact h2.is k hk z⟩⟩
theorem PDisk.lt {w : World} {L : PLay} {s : DS} (h : PDisk w L s) : ∀ q, L.T q → q < w.heap.size := by
  obtain ⟨xv, hb, _⟩ := h.head
  rintro q (rfl | rfl | rfl)
  · exact hb.lt
  · exact h.sure.lt
  · exact h.map.lt
theorem PDisk.ltU {w : World} {L : PLay} {s : DS} (h : PDisk w L s) : ∀ q, L.U q → q < w.heap.size := fun q hq => by rcases hq with hq | hq; exact h.lt q hq; exact h.av q hq
theorem PDisk.after {w w' : World} {L : PLay} {s : DS} (h : PDisk w L s) (hb : Below w.heap.size w w') : PDisk w' L s := by
  have hc : Chg (fun _ => False) w w' := Chg.of_below hb (Nat.le_refl _)
  have hT : Chg L.T w w' := Chg.of_below hb (Nat.le_refl _)
  obtain ⟨xv, hx, hx2⟩ := h.head
  exact ⟨h.ok, h.lay, h.clean, ⟨xv, hx.chg hc id, hx2.chg (hT.weaken (fun _ h => .inl h))⟩, h.sure.chg hc id, h.map.chg hc id, fun q hq => Nat.lt_of_lt_of_le (h.av q hq) hb.size⟩
/-- Blocks that it keeps off may change. -/
theorem PDisk.chgE {w w' : World} {L : PLay} {s : DS} {S : Nat → Prop} (h : PDisk w L s) (hc : Chg S w w') (hS : ∀ q, S q → L.E q) (hT : ∀ q, L.T q → ¬ S q) : PDisk w' L s := by
  obtain ⟨xv, hx1, hx2⟩ := h.head
  exact ⟨h.ok, h.lay, h.clean, ⟨xv, hx1.chg hc (hT _ (.inl rfl)), hx2.chg (hc.weaken (fun q hq => .inr (hS q hq)))⟩, h.sure.chg hc (hT _ (.inr (.inl rfl))), h.map.chg hc (hT _ (.inr (.inr rfl))), fun q hq => Nat.lt_of_lt_of_le (h.av q hq) hc.size⟩
/-- A disk without a plan may keep off others. -/
theorem PDisk.avoid {w : World} {L : PLay} {s : DS} (h : PDisk w L s) (hb : Blk w L.g 65 (L.head (.slice none 0 0) s.down)) (E : Nat → Prop) (hE : ∀ q, E q → q < w.heap.size) : PDisk w { L with E := E } s := by
  obtain ⟨xv, hx1, hx2⟩ := h.head
  have e : xv = .slice none 0 0 := by
    unfold Blk at hx1 hb
    rw [hb] at hx1
    injection hx1 with hx1
    injection hx1 with hx1 _
    unfold PLay.head at hx1
    simpa using hx1.symm
  subst e
  exact ⟨h.ok, ⟨h.lay.gs, h.lay.gm, h.lay.sm, h.lay.one, h.lay.max⟩, h.clean, ⟨.slice none 0 0, hx1, ⟨hx2.1, fun _ q hq => by cases hq⟩⟩, h.sure, h.map, hE⟩
/-- The head alone has changed. -/
theorem PDisk.chgHead {w w' : World} {L : PLay} {s : DS} (h : PDisk w L s) (hc : Chg (fun b => b = L.g) w w') (t : DS) (he : t.now = s.now ∧ t.sure = s.sure ∧ t.dirt = s.dirt) (xv : Value) (hb : Blk w' L.g 65 (L.head xv t.down)) (hx : SegA w' L.U xv t.next) : PDisk w' L t := by
  obtain ⟨e1, e2, e3⟩ := he
  exact ⟨⟨by rw [e1]; exact h.ok.now, by rw [e2]; exact h.ok.sure, by rw [e3]; exact h.ok.dirt, by rw [e1]; exact h.ok.nows, by rw [e2]; exact h.ok.sures⟩, h.lay, fun k hk => by rw [e1, e2]; rw [e3] at hk; exact h.clean k hk, ⟨xv, hb, hx⟩, by rw [e2]; exact h.sure.chg hc (fun e => h.lay.gs e.symm), (h.map.chg hc (fun e => h.lay.gm e.symm)).same e3 e1, fun q hq => Nat.lt_of_lt_of_le (h.av q hq) hc.size⟩
end Go.Proofs.YtbegphfideopoaaGreat
namespace Go.Proofs.YtbegphfideopoaaGreat
open Go.RowKit

theorem run_eql_nil_nilD (w : World) (l c : Nat) : (binOp .eql 34 (.slice none l c) (.slice none 0 0)).run Tryz.prog w = .ok (.bool true) w := by
  have := run_equal_slice_nil (P := Tryz.prog) w 34 5 none l c Tryz.underlying34
  simp [binOp, this]
theorem run_eql_bytes_nilD (w : World) (a : Addr) (l c : Nat) : (binOp .eql 34 (.slice (some a) l c) (.slice none 0 0)).run Tryz.prog w = .ok (.bool false) w := by
  have := run_equal_slice_nil (P := Tryz.prog) w 34 5 (some a) l c Tryz.underlying34
  simp [binOp, this]

set_option maxRecDepth 100000 in
theorem clone_anyD (x : Value) (bs : List UInt8) (w : World) (hm : bs.length ≤ 1000000000) (hseg : Seg w x bs) :
    Calls Tryz.prog 38 #[x] w fun e w' => ∃ v, e = .returned v ∧ Own w' w.heap.size v bs ∧ Below w.heap.size w w' := by
  obtain ⟨ao, c, rfl⟩ := hseg.shapeD
  cases ao with
  | none =>
    obtain ⟨hc, hn⟩ : bs = [] ∧ c = 0 := by
      rcases hseg with ⟨h, ao', c', h2, h3⟩ | ⟨b, off, c', h2, _⟩
      · simp only [Value.slice.injEq] at h2
        exact ⟨h, h2.2.2.trans (h3 h2.1.symm)⟩
      · simp at h2
    subst hc; subst hn
    have hne := run_eql_nil_nilD w 0 0
    go_enter Tryz.func38, Tryz.ntmps38
    go_wp2
    go_ret
    exact ⟨_, rfl, ⟨rfl, .inl ⟨rfl, rfl⟩⟩, Below.refl _ _⟩
  | some ad =>
    have hne := run_eql_bytes_nilD w ad bs.length c
    go_enter Tryz.func38, Tryz.ntmps38
    go_wp2_with (at_builtin; refine app_own _ rfl (.tmp 5) (.tmp 6) rfl w.heap.size _ [] rfl (by exact own_emptyD _ _ _ rfl (Nat.le_refl _)) _ bs rfl (by exact hseg.alloc _) (by simp; omega) (by simp) ?_; intro v2 w2 ho2 hg2 hv2; rw [List.nil_append] at ho2; have hB2 := below_grown ((Below.refl w.heap.size w).alloc (Nat.le_refl _) _) hg2 (by simp) (fun q hq => by have h2 : w.heap.size = q := Option.some.inj hq; omega))
    go_ret
    exact ⟨_, rfl, ho2, hB2⟩
end Go.Proofs.YtbegphfideopoaaGreat
namespace Go.Proofs.YtbegphfideopoaaGreat
open Go.RowKit Go.Maps

set_option maxRecDepth 100000 in
set_option maxHeartbeats 1000000 in
theorem plan_any (L : PLay) (s : DS) (x : Value) (bs : List UInt8) (w : World) (hD : PDisk w L s) (hS : Seg w x bs) (hm : bs.length ≤ 1000000) :
    Calls Tryz.prog 16 #[.pointer (some ⟨L.g, 0, none⟩), x] w fun e w' => e = .returned (.tuple #[]) ∧ PDisk w' L { s with next := bs } ∧ Chg (fun b => b = L.g) w w' := by
  obtain ⟨xv, hx, hx2⟩ := hD.head
  have hT := hD.ltU
  unfold PLay.head at hx
  have l0 := hx.lt
  have HC : Hid (Calls Tryz.prog 38 #[x] w fun e w' => ∃ v, e = .returned v ∧ Own w' w.heap.size v bs ∧ Below w.heap.size w w') := clone_anyD x bs w (by omega) hS
  go_enter Tryz.func16, Tryz.ntmps16
  go_wp2_with (go_at_call 38; refine HC.out.mono ?_; rintro e w2 ⟨v2, rfl, ho2, hB2⟩; have hx3 := hx.below hB2 l0; have c3 := hx3.cell (j := 2) rfl; have z3 := hx3.frozen 2; obtain ⟨a2, c2, rfl⟩ := Seg.shapeD ho2.seg)
  go_end0
  have hc := (Chg.of_below (S := fun b => b = L.g) hB2 (Nat.le_refl _)).setCell L.g 2 (.slice a2 bs.length c2) (fun _ => rfl)
  have hsa : SegA (w2.setCell ⟨L.g, 2, none⟩ (.slice a2 bs.length c2)) L.U (.slice a2 bs.length c2) bs := (ho2.segA hT).chg ((Chg.refl _ w2).setCell L.g 2 _ (fun _ => .inl (.inl rfl)))
  exact ⟨rfl, hD.chgHead hc { s with next := bs } ⟨rfl, rfl, rfl⟩ _ ((hx3.set 2 _).of_eq rfl) hsa, hc⟩

set_option maxRecDepth 100000 in
set_option maxHeartbeats 1000000 in
theorem next_any (L : PLay) (s : DS) (w : World) (hD : PDisk w L s) :
    Calls Tryz.prog 132 #[.pointer (some ⟨L.g, 0, none⟩)] w fun e w' => e = .returned (.int .u8 (n8 (s.next.headD 0))) ∧ PDisk w' L { s with next := s.next.tail } ∧ Chg (fun b => b = L.g) w w' := by
  obtain ⟨xv, hx, hx2⟩ := hD.head
  unfold PLay.head at hx
  have c2 := hx.cell (j := 2) rfl
  have z2 := hx.frozen 2
  obtain ⟨ao, c, hxv⟩ := Seg.shapeD hx2.1
  cases hnx : s.next with
  | nil =>
    rw [hnx] at hxv hx2
    subst hxv
    have hz : ([] : List UInt8).length = 0 := rfl
    rw [hz] at *
    have hs0 : ({ s with next := [].tail } : DS) = s := by rw [List.tail_nil, ← hnx]
    rw [hs0]
    clear hnx hs0
    go_enter Tryz.func132, Tryz.ntmps132
    go_wp2
    go_ret
    exact ⟨rfl, hD, Chg.refl _ _⟩
  | cons x t =>
    rw [hnx] at hxv hx2
    subst hxv
    rw [List.headD_cons, List.tail_cons]
    obtain ⟨b, off, c', he, hlc, hrow, hbl⟩ : ∃ b off c', Value.slice ao (x :: t).length c = .slice (some ⟨b, off, none⟩) (x :: t).length c' ∧ (x :: t).length ≤ c' ∧ Row w b off (x :: t) ∧ b < w.heap.size := by
      rcases hx2.1 with ⟨h, _⟩ | h
      · cases h
      · exact h
    cases he
    have hc0 : w.cell? ⟨b, off, none⟩ = some (.int .u8 (n8 x)) := hrow 0 (by simp)
    have hdr := Seg.dropsD hx2.1 1 (by simp)
    have hsl : ∀ w, (Instr.slice 34 (.slice (some ⟨b, off, none⟩) (x :: t).length c) (some (.int .i64 1)) none none).run Tryz.prog w = .ok (.slice (restD (some ⟨b, off, none⟩) c 1) ((x :: t).length - 1) (c - 1)) w := slice_restD (some ⟨b, off, none⟩) (x :: t).length c 1 (by simp)
    have hL1 : (x :: t).length = t.length + 1 := rfl
    have hL2 : (x :: t).length - 1 = t.length := by simp
    rw [hL2] at hdr hsl
    have hdr' : Seg w (.slice (restD (some ⟨b, off, none⟩) c 1) t.length (c - 1)) t := hdr
    have hblk : 0 < t.length → ∀ q, (Value.slice (restD (some ⟨b, off, none⟩) c 1) t.length (c - 1)).ownBlock = some q → ¬ L.U q := fun _ q hq => hx2.2 (Nat.succ_pos _) q (rest_block _ _ _ _ _ _ _ hq)
    have hsa : SegA w L.U (.slice (restD (some ⟨b, off, none⟩) c 1) t.length (c - 1)) t := ⟨hdr', hblk⟩
    generalize restD (some ⟨b, off, none⟩) c 1 = ra at *
    generalize c - 1 = c1 at *
    rw [hL1] at c2 hsl
    have hnz : (0 : Int) < ((t.length + 1 : Nat) : Int) := by omega
    have hnz2 : ((t.length + 1 : Nat) : Int) ≠ 0 := by omega
    have hc1 := (Chg.refl (fun b => b = L.g) w).setCell L.g 2 (.slice ra t.length c1) (fun _ => rfl)
    have hb1 := hx.set 2 (.slice ra t.length c1)
    have hD1 := hD.chgHead hc1 { s with next := t } ⟨rfl, rfl, rfl⟩ _ (hb1.of_eq rfl) (hsa.chg (hc1.weaken (fun _ h => .inl (.inl h))))
    clear hdr hdr' hblk hL1 hL2 hnx
    go_enter Tryz.func132, Tryz.ntmps132
    go_wp2
    go_ret
    exact ⟨rfl, hD1, hc1⟩

theorem mayS_eq (s : DS) : mayS s = if s.down then (7, s) else if s.next.headD 0 = 1 then (6, { s with next := s.next.tail }) else if s.next.headD 0 = 2 then (7, { s with next := s.next.tail, down := true }) else (0, { s with next := s.next.tail }) := by
  unfold mayS
  split
  · rfl
  · split
    · rename_i h
      rw [h]
      simp only [List.headD_nil, List.tail_nil]
      have e : ({ s with next := [] } : DS) = s := by rw [← h]
      rw [e]
      rfl
    · rename_i h
      rw [h]
      rfl

set_option maxRecDepth 100000 in
set_option maxHeartbeats 1000000 in
theorem meet_any (L : PLay) (s : DS) (w : World) (hD : PDisk w L s) :
    Calls Tryz.prog 110 #[.pointer (some ⟨L.g, 0, none⟩)] w fun e w' => e = .returned (.int .i64 (mayS s).1) ∧ PDisk w' L (mayS s).2 ∧ Chg (fun b => b = L.g) w w' := by
  obtain ⟨xv, hx, hx2⟩ := hD.head
  unfold PLay.head at hx
  have c3 := hx.cell (j := 3) rfl
  obtain ⟨R, hR⟩ : ∃ R, R = mayS s := ⟨_, rfl⟩
  rw [← hR]
  rw [mayS_eq] at hR
  have HN : Hid (Calls Tryz.prog 132 #[.pointer (some ⟨L.g, 0, none⟩)] w fun e w' => e = .returned (.int .u8 (n8 (s.next.headD 0))) ∧ PDisk w' L { s with next := s.next.tail } ∧ Chg (fun b => b = L.g) w w') := next_any L s w hD
  cases hd : s.down with
  | true =>
    rw [hd] at c3 hR
    have HR : Hid (R = (7, s)) := hR
    clear hR hd
    go_enter Tryz.func110, Tryz.ntmps110
    go_wp2_with fail
    go_ret
    rw [HR.out]
    exact ⟨rfl, hD, Chg.refl _ _⟩
  | false =>
    rw [hd] at c3 hR
    generalize s.next.headD 0 = x at *
    by_cases h1 : x = 1
    · have HR : Hid (R = (6, { s with next := s.next.tail })) := by show _ = _; rw [hR, h1]; simp [hd]
      subst h1
      clear hR hd
      go_enter Tryz.func110, Tryz.ntmps110
      go_wp2_with (go_at_call 132; refine HN.out.mono ?_; rintro e w1 ⟨rfl, hD1, hc1⟩)
      go_ret
      rw [HR.out]
      exact ⟨rfl, hD1, hc1⟩
    by_cases h2 : x = 2
    · have HR : Hid (R = (7, { s with next := s.next.tail, down := true })) := by show _ = _; rw [hR, h2]; rfl
      subst h2
      clear hR hd h1
      go_enter Tryz.func110, Tryz.ntmps110
      go_wp2_with (go_at_call 132; refine HN.out.mono ?_; rintro e w1 ⟨rfl, hD1, hc1⟩; obtain ⟨xv1, hx1, hx12⟩ := hD1.head; unfold PLay.head at hx1; have d3 := hx1.cell (j := 3) rfl; have z3 := hx1.frozen 3)
      go_ret
      rw [HR.out]
      have hc2 := (Chg.refl (fun b => b = L.g) w1).setCell L.g 3 (.bool true) (fun _ => rfl)
      exact ⟨rfl, hD1.chgHead hc2 { s with next := s.next.tail, down := true } ⟨rfl, rfl, rfl⟩ xv1 ((hx1.set 3 (.bool true)).of_eq rfl) (hx12.chg (hc2.weaken (fun _ h => .inl (.inl h)))), hc1.trans hc2 (fun _ _ h => h)⟩
    · have HR : Hid (R = (0, { s with next := s.next.tail })) := by show _ = _; rw [hR]; simp [h1, h2, hd]
      have n1 : (n8 x == 1) = false := by
        simp only [beq_eq_false_iff_ne, ne_eq, n8]
        intro h
        exact h1 (UInt8.toNat_inj.1 (show x.toNat = 1 by omega))
      have n2 : (n8 x == 2) = false := by
        simp only [beq_eq_false_iff_ne, ne_eq, n8]
        intro h
        exact h2 (UInt8.toNat_inj.1 (show x.toNat = 2 by omega))
      clear hR hd h1 h2
      go_enter Tryz.func110, Tryz.ntmps110
      go_wp2_with (go_at_call 132; refine HN.out.mono ?_; rintro e w1 ⟨rfl, hD1, hc1⟩)
      go_ret
      rw [HR.out]
      exact ⟨rfl, hD1, hc1⟩

/-- Is there a sector of that number? -/
def hasB (n : Nat) (k : Int) : Bool := decide (0 ≤ k) && decide (k < (n : Int))
set_option maxRecDepth 100000 in
theorem has_any (L : PLay) (s : DS) (k : Int) (w : World) (hD : PDisk w L s) :
    Calls Tryz.prog 109 #[.pointer (some ⟨L.g, 0, none⟩), .int .i64 k] w fun e w' => e = .returned (.bool (hasB L.n k)) ∧ w' = w := by
  obtain ⟨xv, hx, _⟩ := hD.head
  unfold PLay.head at hx
  have c0 := hx.cell (j := 0) rfl
  obtain ⟨B, hB⟩ : ∃ B, B = hasB L.n k := ⟨_, rfl⟩
  rw [← hB]
  unfold hasB at hB
  by_cases h0 : 0 ≤ k
  · by_cases h1 : k < (L.n : Int)
    · have HB : Hid (B = true) := by show _ = _; rw [hB]; simp [h0, h1]
      clear hB
      go_enter Tryz.func109, Tryz.ntmps109
      go_wp2
      go_ret
      rw [HB.out]
      exact ⟨rfl, rfl⟩
    · have HB : Hid (B = false) := by show _ = _; rw [hB]; simp [h1]
      clear hB
      go_enter Tryz.func109, Tryz.ntmps109
      go_wp2
      go_ret
      rw [HB.out]
      exact ⟨rfl, rfl⟩
  · have HB : Hid (B = false) := by show _ = _; rw [hB]; simp [h0]
    clear hB
    go_enter Tryz.func109, Tryz.ntmps109
    go_wp2
    go_ret
    rw [HB.out]
    exact ⟨rfl, rfl⟩
end Go.Proofs.YtbegphfideopoaaGreat
namespace Go.Proofs.YtbegphfideopoaaGreat
open Go.RowKit Go.Maps

theorem secC_size (bs : List UInt8) (h : bs.length = 128) : (secC bs).size = 128 := by unfold secC; simp [h]
theorem secC_one (bs : List UInt8) : (secC bs).all (·.oneCell') = true := one8 bs
theorem Tryz.info88s : (Tryz.prog.info? 88).map (·.size) = some 128 := by kernel_rfl
/-- What the map answers to a number. -/
def lookS (s : DS) (k : Nat) : List UInt8 := if s.dirt.getD k false then s.now.getD k [] else noughts 128
theorem lookS_len {s : DS} {n k : Nat} (h : s.ok n) (hk : k < n) : (lookS s k).length = 128 := by
  unfold lookS
  split
  · exact getD_len h.nows (by rw [h.now]; exact hk)
  · exact noughts_length _
theorem look_val {s : DS} {D : DataW Unit} (hH : Holds5 D s) (k : Nat) {v : Value} {ps : List MemPlace} (hv : secR v = some (D.atKey (.int .i64 (k : Int)) (.lit (.string (noughts 128))), ps)) : v = secV (lookS s k) := by
  obtain ⟨bs, _, rfl, hz⟩ := secR_inv hv
  have hz1 := congrArg Prod.fst hz
  simp only at hz1
  unfold lookS
  cases hd : s.dirt.getD k false with
  | true =>
    rw [hH.is k (dirt_some hd)] at hz1
    injection hz1 with hz1
    injection hz1 with hz1
    rw [if_pos rfl, hz1]
  | false =>
    rw [atKey_of_not_has (by rw [hH.has, dirtB_nat]; exact hd)] at hz1
    injection hz1 with hz1
    injection hz1 with hz1
    rw [if_neg (by simp), hz1]
theorem look_ok5 {w : World} {b m : Nat} {D : DataW Unit} {s : DS} (hown : w.ownsMap Tryz.prog 3 secR b m D) (hH : Holds5 D s) (k : Nat) (hk : k ≤ 4096) :
    (Instr.lookup 63 (.map (some b)) (.int .i64 (k : Int)) true).run Tryz.prog w = .ok (.tuple #[.agg (secC (lookS s k)), .bool (s.dirt.getD k false)]) w := by
  obtain ⟨v, ps, hrun, hv⟩ := hown.look_ok keyI Tryz.underlying63 (zeroSec w) (secR_mk _ (noughts_length _)) (key_int (k : Int) (by omega) (by omega))
  rw [hrun, hH.has, dirtB_nat, look_val hH k hv]; rfl
theorem look5 {w : World} {b m : Nat} {D : DataW Unit} {s : DS} (hown : w.ownsMap Tryz.prog 3 secR b m D) (hH : Holds5 D s) (k : Nat) (hk : k ≤ 4096) :
    (Instr.lookup 63 (.map (some b)) (.int .i64 (k : Int)) false).run Tryz.prog w = .ok (.agg (secC (lookS s k))) w := by
  obtain ⟨v, ps, hrun, hv⟩ := hown.lookup keyI Tryz.underlying63 (zeroSec w) (secR_mk _ (noughts_length _)) (key_int (k : Int) (by omega) (by omega))
  rw [hrun, look_val hH k hv]; rfl
/-- A sector in the row of the synced ones. -/
theorem sec_range {w : World} {b : Nat} {rs : List (List UInt8)} (h : Blk w b 88 (flatV rs)) (hr : ∀ r ∈ rs, r.length = 128) {k : Nat} (hk : k < rs.length) : w.rangeAt b (128 * k) (secC (rs.getD k [])).toList := by
  refine h.range (128 * k) _ (fun j v hv => ?_)
  have hl := getD_len hr hk
  have hj : j < 128 := by
    rcases Nat.lt_or_ge j 128 with h | h
    · exact h
    · rw [List.getElem?_eq_none (by unfold secC; rw [List.toList_toArray, List.length_map, hl]; exact h)] at hv; cases hv
  have := flat_at hr k j hk hj
  unfold flatV
  unfold secC at hv
  rw [List.getElem?_toArray, List.getElem?_map, this]
  simpa using hv
theorem index_sec (b n k : Nat) (w : World) (h : k < n) : (Instr.indexAt 62 (.slice (some ⟨b, 0, none⟩) n n) (.int .i64 (k : Int))).run Tryz.prog w = .ok (.pointer (some ⟨b, 128 * k, none⟩)) w := by
  have hs : ∀ w, (sizeOf 88).run Tryz.prog w = .ok 128 w := fun w => by kernel_rfl
  have hi : (0 : Int) ≤ (k : Int) ∧ (k : Int) < (n : Int) := by omega
  simp [Instr.indexAt, asIntOf, run_underlying Tryz.underlying62, hs, hi, Addr.add_mid]
  rw [if_pos h, Nat.mul_comm]
theorem clone_sec (bs : List UInt8) (hl : bs.length = 128) (W : World) (g : Nat) (h1 : Blk W g 88 (secC bs)) :
    Calls Tryz.prog 38 #[.slice (some ⟨g, 0, none⟩) 128 128] W fun e w' => ∃ v, e = .returned v ∧ Own w' W.heap.size v bs ∧ Below W.heap.size W w' :=
  clone_anyD (.slice (some ⟨g, 0, none⟩) 128 128) bs W (by omega) (Seg.of_row (Blk.row h1) hl (Nat.le_refl _) h1.lt)

set_option maxRecDepth 100000 in
set_option maxHeartbeats 1000000 in
theorem read_any (L : PLay) (s : DS) (k : Int) (w : World) (hD : PDisk w L s) :
    Calls Tryz.prog 128 #[.pointer (some ⟨L.g, 0, none⟩), .int .i64 k] w fun e w' => ∃ v, e = .returned (.tuple #[v, .int .i64 (readS s k).2]) ∧ Own w' w.heap.size v (readS s k).1 ∧ Below w.heap.size w w' := by
  obtain ⟨xv, hx, hx2⟩ := hD.head
  have hnl := hD.ok.now
  unfold PLay.head at hx
  have c3 := hx.cell (j := 3) rfl
  obtain ⟨R, hR⟩ : ∃ R, R = readS s k := ⟨_, rfl⟩
  rw [← hR]
  unfold readS at hR
  have HH : Hid (Calls Tryz.prog 109 #[.pointer (some ⟨L.g, 0, none⟩), .int .i64 k] w fun e w' => e = .returned (.bool (hasB L.n k)) ∧ w' = w) := has_any L s k w hD
  cases hd : s.down with
  | true =>
    rw [hd] at c3 hR
    have HR : Hid (R = ([], 7)) := hR
    clear hR hd
    go_enter Tryz.func128, Tryz.ntmps128
    go_wp2_with fail
    go_ret2
    rw [HR.out]
    exact ⟨_, rfl, ⟨rfl, .inl ⟨rfl, rfl⟩⟩, Below.refl _ _⟩
  | false =>
    rw [hd] at c3 hR
    rw [hnl] at hR
    by_cases hk : k < 0 ∨ (L.n : Int) ≤ k
    · have HR : Hid (R = ([], 1)) := by show _ = _; rw [hR, if_pos hk]; rfl
      have hb : hasB L.n k = false := by unfold hasB; rcases hk with h | h <;> simp <;> omega
      rw [hb] at HH
      clear hR hd hk hb
      go_enter Tryz.func128, Tryz.ntmps128
      go_wp2_with (go_at_call 109; refine HH.out.mono ?_; rintro e w1 ⟨rfl, rfl⟩)
      go_ret2
      rw [HR.out]
      exact ⟨_, rfl, ⟨rfl, .inl ⟨rfl, rfl⟩⟩, Below.refl _ _⟩
    · obtain ⟨m, rfl⟩ : ∃ m : Nat, k = (m : Int) := ⟨k.toNat, by omega⟩
      have HR : Hid (R = (s.now.getD m [], 0)) := by show _ = _; rw [hR, if_neg hk]; rfl
      have hb : hasB L.n (m : Int) = true := by unfold hasB; simp; omega
      rw [hb] at HH
      have hmn : m < L.n := by omega
      have hmx := hD.lay.max
      obtain ⟨mm, D, hown, hH⟩ := hD.map
      have hlk := look_ok5 hown hH m (by omega)
      have c0 := hx.cell (j := 0) rfl
      have c1 := hx.cell (j := 1) rfl
      have hal := zeroSec
      have hll := lookS_len hD.ok hmn
      have HS1 : Hid ((secC (noughts 128)).size = (secC (lookS s m)).size) := (secC_size _ (noughts_length _)).trans (secC_size _ hll).symm
      have hrow := sec_range hD.sure hD.ok.sures (k := m) (by rw [hD.ok.sure]; exact hmn)
      have hcl : s.dirt.getD m false = false → s.now.getD m [] = s.sure.getD m [] := fun h => by
        refine hD.clean m ?_
        rw [List.getD_eq_getElem?_getD] at h
        rw [List.getElem?_eq_getElem (by rw [hD.ok.dirt]; exact hmn)] at h ⊢
        simpa using h
      have hdy : s.dirt.getD m false = true → lookS s m = s.now.getD m [] := fun h => by unfold lookS; rw [if_pos h]
      have hi := Tryz.info88s
      have hix := fun w => index_sec L.bs L.n m w hmn
      have l0 := hx.lt
      have l1 : L.g ≠ w.heap.size := by omega
      clear hR hd hk hb
      cases hdm : s.dirt.getD m false with
      | true =>
        have HE : Hid (lookS s m = s.now.getD m []) := hdy hdm
        rw [hdm] at hlk
        clear hdy hcl hdm
        generalize lookS s m = BS at *
        go_enter Tryz.func128, Tryz.ntmps128
        go_wp2_with (first | (go_at_call 109; refine HH.out.mono ?_; rintro e w1 ⟨rfl, rfl⟩) | (go_at_call 38; refine (clone_sec BS hll _ _ hb3).mono ?_; rintro e w4 ⟨v4, rfl, ho4, hB4⟩) | (refine store_blk rfl 88 _ _ rfl rfl w1.heap.size (secC BS) rfl rfl 88 _ (by exact Blk.new _ _ _) (by rw [HS1.out.symm]; exact hi) HS1.out (secC_one _) ?_; intro w3 hb3 hg3 hs3))
        go_ret2
        rw [HR.out, ← HE.out]
        have hB3 : Below w1.heap.size w1 w3 := below_grown ((Below.refl w1.heap.size w1).alloc (Nat.le_refl _) _) hg3 (by simp) (fun q hq => by have h2 : w1.heap.size = q := Option.some.inj hq; omega)
        exact ⟨_, rfl, ho4.mono hB3.size, hB3.trans (hB4.mono hB3.size)⟩
      | false =>
        have HE : Hid (s.now.getD m [] = s.sure.getD m []) := hcl hdm
        have hsl : (s.sure.getD m []).length = 128 := getD_len hD.ok.sures (by rw [hD.ok.sure]; exact hmn)
        have HS2 : Hid ((secC (lookS s m)).size = (secC (s.sure.getD m [])).size) := (secC_size _ hll).trans (secC_size _ hsl).symm
        rw [hdm] at hlk
        clear hdy hcl hdm
        generalize lookS s m = BS at *
        obtain ⟨SS, hSS⟩ : ∃ SS, SS = s.sure.getD m [] := ⟨_, rfl⟩
        rw [← hSS] at HE hsl HS2
        have HSS : Hid (s.sure.getD m [] = SS) := hSS.symm
        clear hSS
        have hiS : (Tryz.prog.info? 88).map (·.size) = some (secC SS).toList.length := by rw [Array.length_toList, secC_size _ hsl]; exact hi
        have tok1 : True := trivial
        have tok2 : True := trivial
        go_enter Tryz.func128, Tryz.ntmps128
        go_wp2_with (first | (go_at_call 109; refine HH.out.mono ?_; rintro e w1 ⟨rfl, rfl⟩) | (go_at_call 38; refine (clone_sec SS hsl _ _ hb4).mono ?_; rintro e w5 ⟨v5, rfl, ho5, hB5⟩) | (have _t := tok1; refine store_blk rfl 88 _ _ rfl rfl w1.heap.size (secC BS) rfl rfl 88 _ (by exact Blk.new _ _ _) (by rw [HS1.out.symm]; exact hi) HS1.out (secC_one _) ?_; intro w3 hb3 hg3 hs3; clear tok1; have hB3 := below_grown ((Below.refl w1.heap.size w1).alloc (Nat.le_refl _) _) hg3 (by simp) (fun q hq => by have h2 : w1.heap.size = q := Option.some.inj hq; omega); have d0 := (hx.below hB3 l0).cell (j := 0) rfl; have hrow3 := sec_range (hD.sure.below hB3 hD.sure.lt) hD.ok.sures (k := m) (by rw [hD.ok.sure]; exact hmn)) | (refine wpList_load_mid rfl 88 _ rfl L.bs (128 * m) rfl (secC SS).toList _ (HSS.out ▸ hrow3) Tryz.underlying88 rfl hiS ?_) | (have _t := tok2; refine store_blk rfl 88 _ _ rfl rfl w1.heap.size (secC SS) rfl rfl 88 _ (by exact hb3) (by rw [HS2.out.symm, HS1.out.symm]; exact hi) HS2.out (secC_one _) ?_; intro w4 hb4 hg4 hs4; clear tok2))
        go_ret2
        rw [HR.out, HE.out]
        have hB4 : Below w1.heap.size w1 w4 := below_grown hB3 hg4 hB3.size (fun q hq => by have h2 : w1.heap.size = q := Option.some.inj hq; omega)
        exact ⟨_, rfl, ho5.mono hB4.size, hB4.trans (hB5.mono hB4.size)⟩
end Go.Proofs.YtbegphfideopoaaGreat
