/-
  What is proved here: two texts and a record that a call makes, in whichever order.
  Conditions: those that each fact names.
-/
import Derived.Test.YtfghfciigdkioaaGreatRJStoreAwake
namespace Go.Proofs.YtfghfciigdkioaaGreatR
open Go.RowKit Go.Maps

theorem held_all3 {ops : Array Oper} {Q : Exit → Act → World → Prop} {S : World → Prop} {fuel : Nat} {listed : Array Bool} {a : Act} {w : World} (i j k : Nat) (hr : Region.ready .any ops listed = [i, j, k])
    (h1 : wpOp Tryz.prog ops Q i (fun a' w' => S w' ∧ wpAnyH Tryz.prog .any ops Q S fuel (listed.setIfInBounds i true) a' w') a w) (h2 : wpOp Tryz.prog ops Q j (fun a' w' => S w' ∧ wpAnyH Tryz.prog .any ops Q S fuel (listed.setIfInBounds j true) a' w') a w) (h3 : wpOp Tryz.prog ops Q k (fun a' w' => S w' ∧ wpAnyH Tryz.prog .any ops Q S fuel (listed.setIfInBounds k true) a' w') a w) : wpAnyH Tryz.prog .any ops Q S (fuel + 1) listed a w := by
  refine wpAnyH_all hr (by simp) fun q hq => ?_
  simp only [List.mem_cons, List.not_mem_nil, or_false] at hq
  rcases hq with rfl | rfl | rfl
  · exact h1
  · exact h2
  · exact h3
def zeroOp : Array Value := #[.slice none 0 0, .bool false, .slice none 0 0]
/-- What was made so far: two texts, the record. -/
structure Inv8 (w W : World) (s1 s2 : Option (Value × List UInt8)) (m : Option Nat) : Prop where
  b : Below w.heap.size w W
  o1 : ∀ v bs, s1 = some (v, bs) → Own W w.heap.size v bs
  o2 : ∀ v bs, s2 = some (v, bs) → Own W w.heap.size v bs
  ne : ∀ v1 b1 v2 b2, s1 = some (v1, b1) → s2 = some (v2, b2) → ∀ q, v1.ownBlock = some q → v2.ownBlock ≠ some q
  rk : ∀ k, m = some k → Blk W k 59 zeroOp ∧ w.heap.size ≤ k
theorem Inv8.swap {w W : World} {s1 s2 : Option (Value × List UInt8)} {m : Option Nat} (h : Inv8 w W s1 s2 m) : Inv8 w W s2 s1 m := ⟨h.b, h.o2, h.o1, fun v1 b1 v2 b2 e1 e2 q h1 h2 => h.ne v2 b2 v1 b1 e2 e1 q h2 h1, h.rk⟩
theorem Inv8.e1 {w W : World} {s2 : Option (Value × List UInt8)} {m : Option Nat} (h : Inv8 w W none s2 m) : Inv8 w (W.alloc (.cells #[] 5)) (some (.slice (some ⟨W.heap.size, 0, none⟩) 0 0, [])) s2 m := by
  have hb := (Below.refl W.heap.size W).alloc (Nat.le_refl _) (.cells #[] 5)
  refine ⟨blift h.b hb h.b.size, fun v bs e => ?_, fun v bs e => (h.o2 v bs e).below hb (Nat.le_refl _), fun v1 b1 v2 b2 e1 e2 q h1 h2 => ?_, fun k e => ⟨(h.rk k e).1.below hb (h.rk k e).1.lt, (h.rk k e).2⟩⟩
  · cases e
    exact own_emptyD W _ _ rfl h.b.size
  · cases e1
    have e3 : W.heap.size = q := Option.some.inj h1
    have := ((h.o2 _ _ e2).blocks _ h2).2
    omega
theorem Inv8.e2 {w W : World} {s1 : Option (Value × List UInt8)} {m : Option Nat} (h : Inv8 w W s1 none m) : Inv8 w (W.alloc (.cells #[] 5)) s1 (some (.slice (some ⟨W.heap.size, 0, none⟩) 0 0, [])) m := h.swap.e1.swap
theorem Inv8.m {w W : World} {s1 s2 : Option (Value × List UInt8)} (h : Inv8 w W s1 s2 none) : Inv8 w (W.alloc (.cells zeroOp 59)) s1 s2 (some W.heap.size) := by
  have hb := (Below.refl W.heap.size W).alloc (Nat.le_refl _) (.cells zeroOp 59)
  refine ⟨blift h.b hb h.b.size, fun v bs e => (h.o1 v bs e).below hb (Nat.le_refl _), fun v bs e => (h.o2 v bs e).below hb (Nat.le_refl _), h.ne, fun k e => ?_⟩
  cases e
  exact ⟨Blk.new W 59 _, h.b.size⟩
theorem Inv8.a1 {w W : World} {s2 : Option (Value × List UInt8)} {m : Option Nat} {v : Value} (h : Inv8 w W (some (v, [])) s2 m) {xv : Value} {bs : List UInt8} (hx : Seg w xv bs) (hl : bs.length ≤ 1000000) : ∃ v' W', (∀ ty, (Builtin.append_ #[34, 34] ty #[v, xv]).run Tryz.prog W = .ok v' W') ∧ Inv8 w W' (some (v', bs)) s2 m := by
  have ho := h.o1 v [] rfl
  obtain ⟨v', W', hr, ho', hg, hv⟩ := app_bytes W w.heap.size v [] ho xv bs (hx.below h.b (Nat.le_refl _)) (by show 0 + _ ≤ _; omega) h.b.size
  rw [List.nil_append] at ho'
  refine ⟨v', W', hr, ⟨below_grown h.b hg h.b.size (fun q hq => (ho.blocks q hq).1), fun u cs e => by cases e; exact ho', fun u cs e => ?_, fun v1 b1 v2 b2 e1 e2 q h1 h2 => ?_, fun k e => ⟨(h.rk k e).1.grown hg (blk_ne_row (h.rk k e).1 ho (by decide)), (h.rk k e).2⟩⟩⟩
  · refine (h.o2 u cs e).grown hg ?_
    cases hu : u.ownBlock with
    | none => exact .inl rfl
    | some q =>
      right
      intro e3
      exact h.ne v [] u cs rfl e q e3.symm hu
  · cases e1
    rcases hv with e3 | e3
    · exact h.ne v [] v2 b2 rfl e2 q (by rw [← e3]; exact h1) h2
    · rw [e3] at h1
      cases h1
      have := ((h.o2 _ _ e2).blocks _ h2).2
      omega
theorem Inv8.a2 {w W : World} {s1 : Option (Value × List UInt8)} {m : Option Nat} {v : Value} (h : Inv8 w W s1 (some (v, [])) m) {xv : Value} {bs : List UInt8} (hx : Seg w xv bs) (hl : bs.length ≤ 1000000) : ∃ v' W', (∀ ty, (Builtin.append_ #[34, 34] ty #[v, xv]).run Tryz.prog W = .ok v' W') ∧ Inv8 w W' s1 (some (v', bs)) m := by
  obtain ⟨v', W', hr, hi⟩ := h.swap.a1 hx hl
  exact ⟨v', W', hr, hi.swap⟩
theorem exec_allocOp {a : Act} {o : Oper} {w : World} (ho : o.op = .alloc 59) : (execOp a.eval o).run Tryz.prog w = .ok (.value (.pointer (some ⟨w.heap.size, 0, none⟩))) (w.alloc (.cells zeroOp 59)) := by
  unfold execOp
  simp only [ho]
  simp [go_sem, zeroOp]
theorem exec_buildOp {a : Act} {o : Oper} {w : World} (x y : Operand) (ho : o.op = .build 59 #[(0, x), (2, y)]) (xa : Option Addr) (xn xc : Nat) (ya : Option Addr) (yn yc : Nat) (hx : a.eval x = .slice xa xn xc) (hy : a.eval y = .slice ya yn yc) : (execOp a.eval o).run Tryz.prog w = .ok (.value (.agg #[.slice xa xn xc, .bool false, .slice ya yn yc])) w := by
  generalize a.eval = ρ at *
  unfold execOp
  simp only [ho]
  simp [go_sem, hx, hy]
theorem info_op : (Tryz.prog.info? 59).map (·.size) = some 3 := by kernel_rfl
theorem own_calm {x : SS} (h : CalmS x 100 1) (hm : x.m = []) (hs : 256 ≤ sizeS x.s) (k v : List UInt8) : ∃ c y, allA x [[⟨k, false, v⟩]] = (c, y) ∧ (c = 1 ∨ c = 3 ∨ (c = 0 ∧ lookM y.m k = some v ∧ 1 ≤ k.length)) := by
  rcases all_calm h (by decide) hs (by decide) (by rw [hm]; intro p hp; cases hp) (by rw [hm]; exact List.Pairwise.nil) [[⟨k, false, v⟩]] with ⟨_, e⟩ | ⟨_, _, e⟩ | ⟨hb, _, y, e, _, hy, _⟩
  · exact ⟨_, _, e, .inl rfl⟩
  · exact ⟨_, _, e, .inr (.inl rfl)⟩
  · refine ⟨_, _, e, .inr (.inr ⟨rfl, ?_, ?_⟩)⟩
    · rw [hy, hm]
      show lookM (putM k v []) k = some v
      rw [look_put, if_pos rfl]
    · have h1 : opR ⟨k, false, v⟩ = true := by
        unfold badA at hb
        simpa [chgR] using hb
      exact (opR_facts h1).1
/-- The texts and the record, as they were made. -/
def Mine8 (w W : World) (v1 v2 : Value) (k v : List UInt8) (m : Nat) : Prop := Below w.heap.size w W ∧ Own W w.heap.size v1 k ∧ Own W w.heap.size v2 v ∧ (∀ q, v1.ownBlock = some q → v2.ownBlock ≠ some q) ∧ Blk W m 59 #[v1, .bool false, v2] ∧ w.heap.size ≤ m
theorem Inv8.fin {w W W' : World} {v1 v2 : Value} {b1 b2 : List UInt8} {m : Nat} (h : Inv8 w W (some (v1, b1)) (some (v2, b2)) (some m)) (hk : Blk W' m 59 #[v1, .bool false, v2]) (hg : W.grownBy W' (some m)) : Mine8 w W' v1 v2 b1 b2 m := by
  obtain ⟨h1, h2⟩ := h.rk m rfl
  refine ⟨below_grown h.b hg h.b.size (fun q hq => by cases hq; exact h2), (h.o1 _ _ rfl).grown hg (.inr (fun e => blk_ne_row h1 (h.o1 _ _ rfl) (by decide) e.symm)), (h.o2 _ _ rfl).grown hg (.inr (fun e => blk_ne_row h1 (h.o2 _ _ rfl) (by decide) e.symm)), h.ne _ _ _ _ rfl rfl, hk, h2⟩
theorem op_cells (a1 a2 : Option Addr) (n1 c1 n2 c2 : Nat) : (#[Value.slice a1 n1 c1, .bool false, .slice a2 n2 c2].all (·.oneCell')) = true := by simp [Value.oneCell']
theorem Inv8.startD (w : World) : Inv8 w w.drew none none none := ⟨(Below.refl _ _).drew, fun _ _ e => by (cases e), fun _ _ e => by (cases e), fun _ _ _ _ e => by (cases e), fun _ e => by (cases e)⟩
theorem own8_store {w : World} {base g n c : Nat} {bs : List UInt8} (h : Own w base (.slice (some ⟨g, 0, none⟩) n c) bs) (hn : bs.length = n) (i : Nat) (y : UInt8) :
    Own (w.setCell ⟨g, i, none⟩ (v8 y)) base (.slice (some ⟨g, 0, none⟩) n c) (bs.set i y) := by
  subst hn
  have := (World.ownsRow.stored h i (v8 y)).1
  unfold Own
  rw [List.length_set, List.map_set]
  exact this
theorem own8_cell {w : World} {base g n c : Nat} {bs : List UInt8} (h : Own w base (.slice (some ⟨g, 0, none⟩) n c) bs) (hn : bs.length = n) (i : Nat) (hi : i < n) :
    w.cell? ⟨g, i, none⟩ = some (v8 (bs.getD i 0)) ∧ w.frozen? ⟨g, i, none⟩ = false := by
  subst hn
  refine ⟨?_, World.ownsRow.frozenAt h i⟩
  rw [World.ownsRow.cellAt h i (by simpa using hi)]
  simp [hi, List.getD]
theorem xor255 (a : UInt8) : bits .xor .u8 (n8 a) 255 = n8 (a ^^^ 255) := by
  show IntKind.u8.wrap ((BitVec.ofInt 8 (a.toNat : Int) ^^^ BitVec.ofInt 8 255).toNat : Int) = _
  have h : BitVec.ofInt 8 (a.toNat : Int) = a.toBitVec := by
    rw [BitVec.ofInt_natCast]; exact BitVec.eq_of_toNat_eq (by simp)
  have h2 : BitVec.ofInt 8 255 = (255 : UInt8).toBitVec := by decide
  rw [h, h2, wrap_u8_nat]
  show _ = (((a ^^^ 255).toNat : Nat) : Int)
  rw [UInt8.toNat_xor, BitVec.toNat_xor]
  have h1 := a.toNat_lt
  exact congrArg (fun n : Nat => (n : Int)) (Nat.mod_eq_of_lt (Nat.xor_lt_two_pow (n := 8) h1 (by decide)))
theorem seg_str8 {w : World} {v : Value} {bs : List UInt8} (h : Seg w v bs) : (convert 34 9 v).run Tryz.prog w = .ok (.string ⟨bs.toArray⟩) w := by
  rcases h with ⟨rfl, ao, c, rfl, _⟩ | ⟨b, off, c, rfl, _, hr, _⟩
  · rw [run_convert_bytes_string w 34 9 5 _ 0 c Tryz.underlying34 Tryz.underlying5 Tryz.underlying9]
    cases ao <;> simp [Conv.bytesToString, loadCells]
    all_goals rfl
  · exact run_convert_bytes_back w 34 9 5 ⟨b, off, none⟩ c bs Tryz.underlying34 Tryz.underlying5 Tryz.underlying9 (fun j hj => by rw [Addr.add_mid]; exact hr j hj)
end Go.Proofs.YtfghfciigdkioaaGreatR
