/-
  What is proved here: the document's disk: a new one.
  Conditions: none.
-/
import Derived.Test.YtojgeahablphbaaJRefDiskSync
import Derived.Deep.OwnRows
import Derived.Test.YtojgeahablphbaaJBlkNe
namespace Go.Proofs.Ytojgeahablphbaa
open Go.RowKit

theorem Try.info4p : (Try.prog.info? 4).map (fun i => (i.zero, i.size, i.bytes)) = some (some (.bool false), 1, 1) := by kernel_rfl
theorem Try.info5q : (Try.prog.info? 5).map (fun i => (i.zero, i.size, i.bytes)) = some (some (.int .u8 0), 1, 1) := by kernel_rfl
/-- The cells of a sector of noughts. -/
def zsec : Array Value := ((noughts 128).map v8).toArray
theorem made_noughts (n : Nat) : madeCells #[Value.int .u8 0] n = ((noughts n).map v8).toArray := by
  unfold noughts
  apply Array.ext
  · simp [madeCells]
  · intro i h1 h2
    have : v8 0 = Value.int .u8 0 := rfl
    simp [madeCells, this, Nat.mod_one]
theorem made_bools (n : Nat) : madeCells #[Value.bool false] n = ((List.replicate n false).map Value.bool).toArray := by
  apply Array.ext
  · simp [madeCells]
  · intro i h1 h2
    simp [madeCells, Nat.mod_one]
theorem make_sector (w : World) : (Instr.makeSlice 22 (.int .i64 128) (.int .i64 128)).run Try.prog w = .ok (.slice (some ⟨w.heap.size, 0, none⟩) 128 128) (w.alloc (.cells zsec 5)) := by
  have := run_make_row' (P := Try.prog) 22 5 (.int .u8 0) 1 Try.underlying22 Try.info5q rfl .i64 .i64 128 (by omega) (by omega) w
  rw [made_noughts] at this
  exact this
theorem make_bools (n : Nat) (hn : n ≤ 4096) (w : World) : (Instr.makeSlice 53 (.int .i64 (n : Int)) (.int .i64 (n : Int))).run Try.prog w = .ok (.slice (some ⟨w.heap.size, 0, none⟩) n n) (w.alloc (.cells ((List.replicate n false).map Value.bool).toArray 4)) := by
  have := run_make_row' (P := Try.prog) 53 4 (.bool false) 1 Try.underlying53 Try.info4p rfl .i64 .i64 n (by omega) (by omega) w
  rw [made_bools] at this
  exact this
theorem exec_make5 {a : Act} {o : Oper} {w : World} (x y : Operand) (ho : o.op = .makeSlice 22 x y) (hx : a.eval x = .int .i64 128) (hy : a.eval y = .int .i64 128) : (execOp a.eval o).run Try.prog w = .ok (.value (.slice (some ⟨w.heap.size, 0, none⟩) 128 128)) (w.alloc (.cells zsec 5)) := by
  unfold execOp
  simp only [ho, hx, hy]
  rw [Sem.run_bind, make_sector]
  rfl
theorem exec_build5 {a : Act} {o : Oper} {w : World} (x : Operand) (ho : o.op = .buildSlice 39 1 #[(0, x)]) (u : Value) (ao : Option Addr) (n c : Nat) (hx : a.eval x = u) (hu : u = .slice ao n c) : (execOp a.eval o).run Try.prog w = .ok (.value (.slice (some ⟨w.heap.size, 0, none⟩) 1 1)) (w.alloc (.cells #[u] 22)) := by
  subst hu
  unfold execOp
  have e : Array.map (fun y : Nat × Operand => (y.1, a.eval y.2)) #[(0, x)] = #[(0, .slice ao n c)] := by simp [hx]
  simp only [ho, e]
  simp [go_sem]
theorem exec_stores5 {a : Act} {o : Oper} {w : World} (x y : Operand) (ho : o.op = .store 39 x y) (g i : Nat) (ao : Option Addr) (n c : Nat) (u : Value) (hx : a.eval x = .pointer (some ⟨g, i, none⟩)) (hy : a.eval y = .slice ao n c) (hc : w.cell? ⟨g, i, none⟩ = some u) (hf : w.frozen? ⟨g, i, none⟩ = false) : (execOp a.eval o).run Try.prog w = .ok .skip (w.setCell ⟨g, i, none⟩ (.slice ao n c)) := by
  unfold execOp
  simp only [ho, hx, hy]
  simp [go_sem, hc, hf]
theorem op_valg {ops : Array Oper} {Q : Exit → Act → World → Prop} {K : Act → World → Prop} {a : Act} {w : World} (i d : Nat) (o : Oper) (v : Value) (w' : World) (hi : ops[i]? = some o) (hd : o.dst = some d) (hg : o.guard = none) (hrun : (execOp a.eval o).run Try.prog w = .ok (.value v) w') (h : K (a.put (some d) v) w') : wpOp Try.prog ops Q i K a w :=
  op_value i d o v w' hi hd (by simp [Region.wanted, hg]) hrun h
/-- A load beside two operations that lay blocks, one behind the other: it comes up ahead of them, between them or behind them. -/
theorem any_three {ops : Array Oper} {Q : Exit → Act → World → Prop} {fuel : Nat} {listed : Array Bool} {a : Act} {w w1 w2 : World} (i j k di dj dk : Nat) (oi oj ok : Oper) (vi vj vk : Value) (hi : ops[i]? = some oi) (hj : ops[j]? = some oj) (hk : ops[k]? = some ok) (hdi : oi.dst = some di) (hdj : oj.dst = some dj) (hdk : ok.dst = some dk) (hgi : oi.guard = none) (hgj : oj.guard = none) (hgk : ok.guard = none)
    (hr : Region.ready .any ops listed = [i, j]) (hri : Region.ready .any ops (listed.setIfInBounds i true) = [j]) (hrj : Region.ready .any ops (listed.setIfInBounds j true) = [i, k]) (hrij : Region.ready .any ops ((listed.setIfInBounds i true).setIfInBounds j true) = [k]) (hrji : Region.ready .any ops ((listed.setIfInBounds j true).setIfInBounds i true) = [k]) (hrjk : Region.ready .any ops ((listed.setIfInBounds j true).setIfInBounds k true) = [i])
    (i0 : (execOp a.eval oi).run Try.prog w = .ok (.value vi) w) (i1 : (execOp (a.put (some dj) vj).eval oi).run Try.prog w1 = .ok (.value vi) w1) (i2 : (execOp ((a.put (some dj) vj).put (some dk) vk).eval oi).run Try.prog w2 = .ok (.value vi) w2)
    (j0 : (execOp a.eval oj).run Try.prog w = .ok (.value vj) w1) (j1 : (execOp (a.put (some di) vi).eval oj).run Try.prog w = .ok (.value vj) w1)
    (k0 : (execOp (a.put (some dj) vj).eval ok).run Try.prog w1 = .ok (.value vk) w2) (k1 : (execOp ((a.put (some di) vi).put (some dj) vj).eval ok).run Try.prog w1 = .ok (.value vk) w2) (k2 : (execOp ((a.put (some dj) vj).put (some di) vi).eval ok).run Try.prog w1 = .ok (.value vk) w2)
    (l1 : ((listed.setIfInBounds j true).setIfInBounds i true).setIfInBounds k true = ((listed.setIfInBounds i true).setIfInBounds j true).setIfInBounds k true) (l2 : ((listed.setIfInBounds j true).setIfInBounds k true).setIfInBounds i true = ((listed.setIfInBounds i true).setIfInBounds j true).setIfInBounds k true)
    (p1 : ((a.put (some dj) vj).put (some di) vi).put (some dk) vk = ((a.put (some di) vi).put (some dj) vj).put (some dk) vk) (p2 : ((a.put (some dj) vj).put (some dk) vk).put (some di) vi = ((a.put (some di) vi).put (some dj) vj).put (some dk) vk)
    (h : wpAnyH Try.prog .any ops Q (fun _ => True) fuel (((listed.setIfInBounds i true).setIfInBounds j true).setIfInBounds k true) (((a.put (some di) vi).put (some dj) vj).put (some dk) vk) w2) : wpAnyH Try.prog .any ops Q (fun _ => True) (fuel + 1 + 1 + 1) listed a w := by
  refine held_all2 i j hr (op_valg i di oi vi w hi hdi hgi i0 ⟨trivial, ?_⟩) (op_valg j dj oj vj w1 hj hdj hgj j0 ⟨trivial, ?_⟩)
  · refine held_all1 j hri (op_valg j dj oj vj w1 hj hdj hgj j1 ⟨trivial, ?_⟩)
    exact held_all1 k hrij (op_valg k dk ok vk w2 hk hdk hgk k1 ⟨trivial, h⟩)
  · refine held_all2 i k hrj (op_valg i di oi vi w1 hi hdi hgi i1 ⟨trivial, ?_⟩) (op_valg k dk ok vk w2 hk hdk hgk k0 ⟨trivial, ?_⟩)
    · exact held_all1 k hrji (op_valg k dk ok vk w2 hk hdk hgk k2 ⟨trivial, by rw [l1, p1]; exact h⟩)
    · exact held_all1 i hrjk (op_valg i di oi vi w2 hi hdi hgi i2 ⟨trivial, by rw [l2, p2]; exact h⟩)
/-- A table of sectors that is being filled. -/
structure Fill (w : World) (base : Nat) (v : Value) (I : Nat) (vs : List Value) : Prop where
  own : w.ownsRow base 22 1 v I vs
  rows : ∀ u ∈ vs, ∃ q, base ≤ q ∧ u = .slice (some ⟨q, 0, none⟩) 128 128 ∧ Blk w q 5 zsec
theorem Fill.len {w : World} {base : Nat} {v : Value} {I : Nat} {vs : List Value} (h : Fill w base v I vs) : vs.length = I := by have := h.own.1; omega
theorem Fill.sl {w : World} {base : Nat} {v : Value} {I : Nat} {vs : List Value} (h : Fill w base v I vs) : ∃ ao c, v = .slice ao I c := by
  rcases h.own.2 with ⟨h1, h2⟩ | ⟨g, cap, cur, h1, _⟩
  · rw [h2]; exact ⟨_, _, h1⟩
  · exact ⟨_, _, h1⟩
theorem Fill.blk {w : World} {base : Nat} {v : Value} {I : Nat} {vs : List Value} (h : Fill w base v I vs) {a : Nat} (ha : v.ownBlock = some a) : ∃ cur, Blk w a 22 cur := by
  rcases h.own.2 with ⟨h1, h2⟩ | ⟨g, cap, cur, h1, _, h3, _⟩
  · rw [h1] at ha; cases ha
  · rw [h1] at ha; obtain rfl : g = a := Option.some.inj ha; exact ⟨cur, h3⟩
theorem Fill.nil (w : World) (base : Nat) : Fill w base (.slice none 0 0) 0 [] := ⟨⟨rfl, .inl ⟨rfl, rfl⟩⟩, fun _ h => by cases h⟩
theorem Fill.grown {w w' : World} {base : Nat} {v : Value} {I : Nat} {vs : List Value} {row : Option Nat} (h : Fill w base v I vs) (hg : w.grownBy w' row) (h1 : ∀ a, row = some a → v.ownBlock ≠ some a) (h2 : ∀ a, row = some a → ∃ t cur, Blk w a t cur ∧ t ≠ 5) : Fill w' base v I vs := by
  refine ⟨World.ownsRow.kept h.own hg ?_, fun u hu => ?_⟩
  · cases row with
    | none => cases hv : v.ownBlock <;> simp
    | some a => right; exact h1 a rfl
  · obtain ⟨q, hq, e, hb⟩ := h.rows u hu
    refine ⟨q, hq, e, hb.grown hg (fun e2 => ?_)⟩
    obtain ⟨t, cur, hb2, ht⟩ := h2 q e2.symm
    exact hb.ne hb2 (fun e3 => ht e3.symm) rfl
theorem Fill.alloc {w : World} {base : Nat} {v : Value} {I : Nat} {vs : List Value} (h : Fill w base v I vs) (o : Obj) : Fill (w.alloc o) base v I vs := h.grown (World.grownBy_alloc w o none) (fun _ e => by cases e) (fun _ e => by cases e)
theorem Fill.drew {w : World} {base : Nat} {v : Value} {I : Nat} {vs : List Value} (h : Fill w base v I vs) : Fill w.drew base v I vs := ⟨h.own, h.rows⟩
theorem Fill.setCell {w : World} {base : Nat} {v : Value} {I : Nat} {vs : List Value} (h : Fill w base v I vs) {g : Nat} {x : Array Value} (hg : Blk w g 55 x) (i : Nat) (u : Value) : Fill (w.setCell ⟨g, i, none⟩ u) base v I vs := by
  have hgr : w.grownBy (w.setCell ⟨g, i, none⟩ u) (some g) := ⟨rfl, rfl, rfl, by simp, fun k _ hk => Below.heap_setCell w ⟨g, i, none⟩ u k (fun e => hk (by rw [e]))⟩
  refine h.grown hgr (fun a e hv => ?_) (fun a e => ?_)
  · obtain rfl := Option.some.inj e
    obtain ⟨cur, hb⟩ := h.blk hv
    exact hg.ne hb (by decide) rfl
  · obtain rfl := Option.some.inj e
    exact ⟨_, _, hg, by decide⟩
/-- One more row. -/
theorem Fill.more (w : World) {base : Nat} {v : Value} {I : Nat} {vs : List Value} (h : Fill w base v I vs) (hI : I ≤ 4096) (hbase : base ≤ w.heap.size) :
    ∃ v' w', (∀ ty, (Builtin.append_ #[39, 39] ty #[v, .slice (some ⟨(w.alloc (.cells zsec 5)).heap.size, 0, none⟩) 1 1]).run Try.prog ((w.alloc (.cells zsec 5)).alloc (.cells #[.slice (some ⟨w.heap.size, 0, none⟩) 128 128] 22)) = .ok v' w') ∧
      Fill w' base v' (I + 1) (vs ++ [.slice (some ⟨w.heap.size, 0, none⟩) 128 128]) ∧ ((w.alloc (.cells zsec 5)).alloc (.cells #[.slice (some ⟨w.heap.size, 0, none⟩) 128 128] 22)).grownBy w' v.ownBlock ∧ (v'.ownBlock = v.ownBlock ∨ ∃ q, v'.ownBlock = some q ∧ w.heap.size ≤ q) := by
  obtain ⟨i0, hi, hz0, hz1, hz2⟩ := info_parts Try.info22p
  have h2 := (h.alloc (.cells zsec 5)).alloc (.cells #[.slice (some ⟨w.heap.size, 0, none⟩) 128 128] 22)
  have hq : Blk ((w.alloc (.cells zsec 5)).alloc (.cells #[.slice (some ⟨w.heap.size, 0, none⟩) 128 128] 22)) w.heap.size 5 zsec := (Blk.new w 5 _).alloc _
  have hcell : ((w.alloc (.cells zsec 5)).alloc (.cells #[.slice (some ⟨w.heap.size, 0, none⟩) 128 128] 22)).cell? ⟨(w.alloc (.cells zsec 5)).heap.size, 0, none⟩ = some (.slice (some ⟨w.heap.size, 0, none⟩) 128 128) := (Blk.new (w.alloc (.cells zsec 5)) 22 _).cell rfl
  have hsz : ((w.alloc (.cells zsec 5)).alloc (.cells #[.slice (some ⟨w.heap.size, 0, none⟩) 128 128] 22)).heap.size = w.heap.size + 2 := by simp
  have hblk := fun a (ha : v.ownBlock = some a) => h2.blk ha
  obtain ⟨v', w', h0, h1, h3, _, h5⟩ := run_append_own_at (P := Try.prog) ((w.alloc (.cells zsec 5)).alloc (.cells #[.slice (some ⟨w.heap.size, 0, none⟩) 128 128] 22)) base 39 39 22 i0 (.slice none 0 0) 1 24 Try.underlying39 hi hz0 hz1 hz2 rfl (by decide) v I vs h2.own ⟨(w.alloc (.cells zsec 5)).heap.size, 0, none⟩ 1 1 [.slice (some ⟨w.heap.size, 0, none⟩) 128 128] rfl
    (fun j u hu => by
      match j, hu with
      | 0, hu => cases hu; exact hcell
      | (j + 1), hu => cases hu) (fun u hu => by rw [show u = .slice (some ⟨w.heap.size, 0, none⟩) 128 128 by simpa using hu]; rfl) (by unfold maxLen; omega) (by omega) (by rw [hsz]; omega)
  refine ⟨v', w', fun ty => h0, ⟨h1, fun u hu => ?_⟩, h3, ?_⟩
  · rcases List.mem_append.1 hu with hu | hu
    · obtain ⟨q, hqb, e, hb⟩ := h2.rows u hu
      refine ⟨q, hqb, e, hb.grown h3 (fun e2 => ?_)⟩
      obtain ⟨cur, hb2⟩ := hblk q e2.symm
      exact hb.ne hb2 (by decide) rfl
    · rw [show u = .slice (some ⟨w.heap.size, 0, none⟩) 128 128 by simpa using hu]
      refine ⟨_, hbase, rfl, hq.grown h3 (fun e2 => ?_)⟩
      obtain ⟨cur, hb2⟩ := hblk _ e2.symm
      exact hq.ne hb2 (by decide) rfl
  · rcases h5 with h5 | h5
    · exact .inl h5
    · exact .inr ⟨_, h5, by rw [hsz]; omega⟩
theorem Fill.tab {w : World} {base : Nat} {v : Value} {I : Nat} {vs : List Value} (h : Fill w base v I vs) (hI : 1 ≤ I) (T : Nat → Prop) (hT : ∀ q x, T q → base ≤ q → ¬ Blk w q 5 x) : ∃ b c, v = .slice (some ⟨b, 0, none⟩) I c ∧ base ≤ b ∧ TabB w b 22 vs ∧ RowsA w T vs (List.replicate I (noughts 128)) := by
  have hl := h.len
  rcases h.own.2 with ⟨h1, h2⟩ | ⟨g, cap, cur, h1, h2, h3, h4, _, h5, h6⟩
  · omega
  · refine ⟨g, cap, h1, h2, ⟨cur, h3, by omega, fun j u hu => ?_⟩, by rw [hl, List.length_replicate], fun i u r hu hr => ?_⟩
    · rw [Nat.mul_one] at h6
      have hj : j < I := by rw [← hl]; exact (List.getElem?_eq_some_iff.1 hu).1
      rw [← h6, List.getElem?_take_of_lt hj] at hu
      rw [← Array.getElem?_toList]; exact hu
    · rw [List.getElem?_replicate] at hr
      split at hr
      · cases hr
        obtain ⟨q, hqb, rfl, hb⟩ := h.rows u (List.mem_of_getElem? hu)
        exact ⟨Seg.of_row (Blk.row (bs := noughts 128) hb) (noughts_length _) (Nat.le_refl _) hb.lt, fun _ q' hq' hTq => by obtain rfl : q = q' := Option.some.inj hq'; exact hT q _ hTq hqb hb⟩
      · cases hr
/-- The document's disk, while it is made. -/
structure NewAt (w : World) (base g bd n : Nat) (nv sv : Value) (I J : Nat) : Prop where
  head : Blk w g 55 #[nv, sv, .slice (some ⟨bd, 0, none⟩) n n, .slice none 0 0, .bool false]
  dirt : Blk w bd 4 ((List.replicate n false).map Value.bool).toArray
  gb : base ≤ g ∧ base ≤ bd
  now : ∃ vs, Fill w base nv I vs
  sure : ∃ vs, Fill w base sv J vs
  off : ∀ a, nv.ownBlock = some a → sv.ownBlock ≠ some a
theorem NewAt.now1 {w w' : World} {base g bd n I J : Nat} {nv sv v' : Value} {o1 o2 : Obj} (h : NewAt w base g bd n nv sv I J) {vs : List Value} (hF : Fill w' base v' (I + 1) vs) (hg : ((w.drew.alloc o1).alloc o2).grownBy w' nv.ownBlock) (hl : v'.ownBlock = nv.ownBlock ∨ ∃ q, v'.ownBlock = some q ∧ w.drew.heap.size ≤ q) : NewAt (w'.setCell ⟨g, 0, none⟩ v') base g bd n v' sv (I + 1) J := by
  obtain ⟨vs0, h0⟩ := h.now
  obtain ⟨us, hs⟩ := h.sure
  have hb := fun a (ha : nv.ownBlock = some a) => ((h0.drew.alloc o1).alloc o2).blk ha
  have hb0 := fun a (ha : nv.ownBlock = some a) => h0.blk ha
  have hh := ((h.head.drew.alloc o1).alloc o2).grown hg (fun e => by obtain ⟨cur, k⟩ := hb0 g e.symm; exact h.head.ne k (by decide) rfl)
  have hd := ((h.dirt.drew.alloc o1).alloc o2).grown hg (fun e => by obtain ⟨cur, k⟩ := hb0 bd e.symm; exact h.dirt.ne k (by decide) rfl)
  have hS := (((hs.drew).alloc o1).alloc o2).grown hg (fun a e => h.off a e) (fun a e => by obtain ⟨cur, k⟩ := hb a e; exact ⟨_, _, k, by decide⟩)
  refine ⟨(hh.set 0 v').of_eq rfl, hd.setOther _ _ (hd.ne hh (by decide)), h.gb, ⟨vs, hF.setCell hh 0 v'⟩, ⟨us, hS.setCell hh 0 v'⟩, fun a ha => ?_⟩
  rcases hl with hl | ⟨q, hl, hq⟩
  · exact h.off a (hl ▸ ha)
  · intro e
    rw [hl] at ha
    obtain rfl := Option.some.inj ha
    obtain ⟨cur, k⟩ := hs.blk e
    have := k.lt
    exact absurd hq (by show ¬ w.heap.size ≤ q; omega)
theorem NewAt.sure1 {w w' : World} {base g bd n I J : Nat} {nv sv v' : Value} {o1 o2 : Obj} (h : NewAt w base g bd n nv sv I J) {vs : List Value} (hF : Fill w' base v' (J + 1) vs) (hg : ((w.drew.alloc o1).alloc o2).grownBy w' sv.ownBlock) (hl : v'.ownBlock = sv.ownBlock ∨ ∃ q, v'.ownBlock = some q ∧ w.drew.heap.size ≤ q) : NewAt (w'.setCell ⟨g, 1, none⟩ v') base g bd n nv v' I (J + 1) := by
  obtain ⟨vs0, h0⟩ := h.sure
  obtain ⟨us, hs⟩ := h.now
  have hb := fun a (ha : sv.ownBlock = some a) => ((h0.drew.alloc o1).alloc o2).blk ha
  have hb0 := fun a (ha : sv.ownBlock = some a) => h0.blk ha
  have hh := ((h.head.drew.alloc o1).alloc o2).grown hg (fun e => by obtain ⟨cur, k⟩ := hb0 g e.symm; exact h.head.ne k (by decide) rfl)
  have hd := ((h.dirt.drew.alloc o1).alloc o2).grown hg (fun e => by obtain ⟨cur, k⟩ := hb0 bd e.symm; exact h.dirt.ne k (by decide) rfl)
  have hS := (((hs.drew).alloc o1).alloc o2).grown hg (fun a e e2 => h.off a e2 e) (fun a e => by obtain ⟨cur, k⟩ := hb a e; exact ⟨_, _, k, by decide⟩)
  refine ⟨(hh.set 1 v').of_eq rfl, hd.setOther _ _ (hd.ne hh (by decide)), h.gb, ⟨us, hS.setCell hh 1 v'⟩, ⟨vs, hF.setCell hh 1 v'⟩, fun a ha e => ?_⟩
  rcases hl with hl | ⟨q, hl, hq⟩
  · exact h.off a ha (hl ▸ e)
  · rw [hl] at e
    obtain rfl := Option.some.inj e
    obtain ⟨cur, k⟩ := hs.blk ha
    have := k.lt
    exact absurd hq (by show ¬ w.heap.size ≤ q; omega)
theorem new_below {w wr w' : World} {g off : Nat} {v : Option Nat} {u : Value} {o1 o2 : Obj} (hB : Below w.heap.size w wr) (hg : ((wr.drew.alloc o1).alloc o2).grownBy w' v) (hv : ∀ a, v = some a → w.heap.size ≤ a) (hgb : w.heap.size ≤ g) : Below w.heap.size w (w'.setCell ⟨g, off, none⟩ u) := by
  have h1 : Below w.heap.size w ((wr.drew.alloc o1).alloc o2) := (hB.drew.alloc hB.size o1).alloc (Nat.le_trans hB.size (by simp)) o2
  exact (below_grown h1 hg h1.size hv).setCell (p := ⟨g, off, none⟩) hgb u
theorem NewAt.done {w : World} {base g bd n : Nat} {nv sv : Value} (h : NewAt w base g bd n nv sv n n) (h1 : 1 ≤ n) (h2 : n ≤ 4096) (E : Nat → Prop) (hE : ∀ q, E q → q < base) : ∃ L : RLay, L.g = g ∧ L.n = n ∧ L.E = E ∧ RDisk w L (newS n) ∧ ∀ q, L.T q → base ≤ q := by
  obtain ⟨vs, hn⟩ := h.now
  obtain ⟨us, hs⟩ := h.sure
  obtain ⟨bn, cn, e1, hb1, -, -⟩ := hn.tab h1 (fun _ => False) (fun _ _ h _ => h.elim)
  obtain ⟨bs, cs, e2, hb2, -, -⟩ := hs.tab h1 (fun _ => False) (fun _ _ h _ => h.elim)
  obtain ⟨cur1, k1⟩ := hn.blk (a := bn) (by rw [e1]; rfl)
  obtain ⟨cur2, k2⟩ := hs.blk (a := bs) (by rw [e2]; rfl)
  have hT : ∀ q x, RLay.U ⟨g, bn, bs, bd, n, cn, cs, n, E⟩ q → base ≤ q → ¬ Blk w q 5 x := by
    rintro q x ((rfl | rfl | rfl | rfl) | hEq) hqb hb
    · exact h.head.ne hb (by decide) rfl
    · exact k1.ne hb (by decide) rfl
    · exact k2.ne hb (by decide) rfl
    · exact h.dirt.ne hb (by decide) rfl
    · have := hE q hEq; omega
  obtain ⟨bn', cn', e1', _, t1, r1⟩ := hn.tab h1 _ hT
  obtain ⟨bs', cs', e2', _, t2, r2⟩ := hs.tab h1 _ hT
  rw [e1] at e1'
  cases e1'
  rw [e2] at e2'
  cases e2'
  have hgl := h.head.lt
  refine ⟨⟨g, bn, bs, bd, n, cn, cs, n, E⟩, rfl, rfl, rfl, ⟨newS_ok n, ⟨h.head.ne k1 (by decide), h.head.ne k2 (by decide), h.head.ne h.dirt (by decide), fun e => ?_, k1.ne h.dirt (by decide), k2.ne h.dirt (by decide), h1, h2⟩, ⟨.slice none 0 0, by have := h.head; rw [e1, e2] at this; exact this, .inl ⟨rfl, none, 0, rfl, fun _ => rfl⟩, fun _ q hq => by cases hq⟩, ⟨vs, t1, r1⟩, ⟨us, t2, r2⟩, ?_, fun q hq => by have := hE q hq; have := h.gb.1; omega⟩, ?_⟩
  · exact h.off bn (by rw [e1]; rfl) (by rw [e2]; show some bs = some bn; rw [show bn = bs from e])
  · exact ⟨_, h.dirt, by simp [newS], fun j u hu => by rw [List.getElem?_toArray]; exact hu⟩
  · rintro q (rfl | rfl | rfl | rfl)
    · exact h.gb.1
    · exact hb1
    · exact hb2
    · exact h.gb.2

set_option maxRecDepth 100000 in
theorem refNew_bad (n : Int) (w : World) (h : n < 1 ∨ 4096 < n) :
    Calls Try.prog 6 #[.int .i64 n] w fun e w' => e = .returned (.tuple #[.pointer none, .int .i64 1]) ∧ w' = w := by
  by_cases h1 : n < 1
  · clear h
    go_enter Try.func6, Try.ntmps6
    go_wp2
    go_ret2
    exact ⟨rfl, rfl⟩
  · have h2 : 4096 < n := by omega
    clear h
    go_enter Try.func6, Try.ntmps6
    go_wp2
    go_ret2
    exact ⟨rfl, rfl⟩

set_option maxRecDepth 100000 in
set_option maxHeartbeats 4000000 in
theorem refNew_any (n : Nat) (w : World) (h1 : 1 ≤ n) (h2 : n ≤ 4096) (E : Nat → Prop) (hE : ∀ q, E q → q < w.heap.size) :
    Calls Try.prog 6 #[.int .i64 (n : Int)] w fun e w' => ∃ L : RLay, e = .returned (.tuple #[.pointer (some ⟨L.g, 0, none⟩), .int .i64 0]) ∧ L.n = n ∧ L.E = E ∧ RDisk w' L (newS n) ∧ Below w.heap.size w w' ∧ ∀ q, L.T q → w.heap.size ≤ q := by
  have hmk := fun w => make_bools n h2 w
  have a1 : ¬ (n : Int) < 1 := by omega
  have a2 : ¬ (4096 : Int) < (n : Int) := by omega
  generalize hZB : ((List.replicate n false).map Value.bool).toArray = ZB at hmk
  go_enter Try.func6, Try.ntmps6
  go_wp2
  have hstart : NewAt ((w.alloc (.cells ZB 4)).alloc (.cells #[.slice none 0 0, .slice none 0 0, .slice (some ⟨w.heap.size, 0, none⟩) n n, .slice none 0 0, .bool false] 55)) w.heap.size (w.heap.size + 1) w.heap.size n (.slice none 0 0) (.slice none 0 0) 0 0 := by
    refine ⟨Blk.newAt _ _ _ _ (by simp), ?_, ⟨by omega, Nat.le_refl _⟩, ⟨_, Fill.nil _ _⟩, ⟨_, Fill.nil _ _⟩, fun a e => by cases e⟩
    rw [hZB]
    exact (Blk.new w 4 ZB).alloc _
  have hB0 : Below w.heap.size w ((w.alloc (.cells ZB 4)).alloc (.cells #[.slice none 0 0, .slice none 0 0, .slice (some ⟨w.heap.size, 0, none⟩) n n, .slice none 0 0, .bool false] 55)) := ((Below.refl _ w).alloc (Nat.le_refl _) _).alloc (by simp) _
  go_loopw [5] (fun i wr => ∃ (I : Nat) (nv sv : Value), I ≤ n ∧ i = .int .i64 (I : Int) ∧ NewAt wr w.heap.size (w.heap.size + 1) w.heap.size n nv sv I I ∧ Below w.heap.size w wr) (fun i _ => n - (intOf i).toNat)
  case atStart => exact ⟨0, _, _, Nat.zero_le _, rfl, hstart, hB0⟩
  case round =>
    obtain ⟨I, nv, sv, hI, rfl, hN, hB⟩ := hrel
    clear hstart hB0
    by_cases hlt : I < n
    case neg =>
      have i1 : ¬ (I : Int) < (n : Int) := by omega
      obtain rfl : I = n := by omega
      obtain ⟨L, hg, hn, hLE, hR, hT⟩ := hN.done h1 h2 E hE
      go_wp2
      go_ret2
      exact ⟨L, by rw [hg]; rfl, hn, hLE, hR, hB, hT⟩
    have i1 : (I : Int) < (n : Int) := by omega
    obtain ⟨vs, hF⟩ := hN.now
    obtain ⟨us, hG⟩ := hN.sure
    have hhd := hN.head
    have c0 := hhd.cell (j := 0) rfl
    generalize hgg : w.heap.size + 1 = g at *
    go_wp2_with fail
    have hBs := hB.size
    have hgb := hN.gb
    have hS0 : wr.drew.cell? ⟨g, 0, none⟩ = some nv := c0
    obtain ⟨v1, w1, hr1, hF1, hg1, hl1⟩ := Fill.more wr.drew hF.drew (by omega) hBs
    have hsA1 : (wr.drew.alloc (.cells zsec 5)).cell? ⟨g, 0, none⟩ = some nv := (hhd.drew.alloc _).cell (j := 0) rfl
    have hsB1 : ((wr.drew.alloc (.cells zsec 5)).alloc (.cells #[.slice (some ⟨wr.heap.size, 0, none⟩) 128 128] 22)).cell? ⟨g, 0, none⟩ = some nv := ((hhd.drew.alloc _).alloc _).cell (j := 0) rfl
    have hhd1 := ((hhd.drew.alloc (.cells zsec 5)).alloc (.cells #[.slice (some ⟨wr.heap.size, 0, none⟩) 128 128] 22)).grown hg1 (fun e => by obtain ⟨cur, hb⟩ := (hF).blk e.symm; exact hhd.ne hb (by decide) rfl)
    have hsC1 := hhd1.cell (j := 0) rfl
    obtain ⟨ao1, cc1, hv1⟩ := hF1.sl
    refine held_begin (fun _ => True) (by kernel_rfl) ?_
    refine held_take 0 21 _ (.pointer (some ⟨g, 0, none⟩)) rfl rfl (by kernel_rfl) (by kernel_rfl) (by kernel_rfl) rfl trivial (fun _ _ => rfl) ?_
    simp only [Act.put, List.setIfInBounds_toArray, List.set_cons_succ, List.set_cons_zero]
    refine held_take 1 22 _ (.pointer (some ⟨g, 0, none⟩)) rfl rfl (by kernel_rfl) (by kernel_rfl) (by kernel_rfl) rfl trivial (fun _ _ => rfl) ?_
    simp only [Act.put, List.setIfInBounds_toArray, List.set_cons_succ, List.set_cons_zero]
    refine held_take 2 23 _ (.pointer (some ⟨g, 0, none⟩)) rfl rfl (by kernel_rfl) (by kernel_rfl) (by kernel_rfl) rfl trivial (fun _ _ => rfl) ?_
    simp only [Act.put, List.setIfInBounds_toArray, List.set_cons_succ, List.set_cons_zero]
    refine held_take 3 24 _ (.pointer (some ⟨g, 0, none⟩)) rfl rfl (by kernel_rfl) (by kernel_rfl) (by kernel_rfl) rfl trivial (fun _ _ => rfl) ?_
    simp only [Act.put, List.setIfInBounds_toArray, List.set_cons_succ, List.set_cons_zero]
    refine any_three 4 5 6 25 26 27 _ _ _ nv _ _ rfl rfl rfl rfl rfl rfl rfl rfl rfl (by kernel_rfl) (by kernel_rfl) (by kernel_rfl) (by kernel_rfl) (by kernel_rfl) (by kernel_rfl) (exec_loadc 39 _ rfl _ _ rfl (load_one 39 (fun _ => by kernel_rfl) _ _ _ _ hS0)) (exec_loadc 39 _ rfl _ _ rfl (load_one 39 (fun _ => by kernel_rfl) _ _ _ _ hsA1)) (exec_loadc 39 _ rfl _ _ rfl (load_one 39 (fun _ => by kernel_rfl) _ _ _ _ hsB1)) (exec_make5 _ _ rfl rfl rfl) (exec_make5 _ _ rfl rfl rfl) (exec_build5 _ rfl (.slice (some ⟨wr.heap.size, 0, none⟩) 128 128) _ _ _ rfl rfl) (exec_build5 _ rfl (.slice (some ⟨wr.heap.size, 0, none⟩) 128 128) _ _ _ rfl rfl) (exec_build5 _ rfl (.slice (some ⟨wr.heap.size, 0, none⟩) 128 128) _ _ _ rfl rfl) rfl rfl rfl rfl ?_
    simp only [Act.put, List.setIfInBounds_toArray, List.set_cons_succ, List.set_cons_zero]
    subst hv1
    refine held_all1 7 (by kernel_rfl) (op_value 7 28 _ _ w1 rfl rfl rfl (exec_app _ _ _ _ rfl _ _ _ rfl rfl hr1) ⟨trivial, ?_⟩)
    simp only [Act.put, List.setIfInBounds_toArray, List.set_cons_succ, List.set_cons_zero]
    refine held_one 8 29 _ (.pointer (some ⟨g, 0, none⟩)) rfl rfl (by kernel_rfl) rfl trivial rfl ?_
    simp only [Act.put, List.setIfInBounds_toArray, List.set_cons_succ, List.set_cons_zero]
    refine held_one 9 30 _ (.pointer (some ⟨g, 0, none⟩)) rfl rfl (by kernel_rfl) rfl trivial rfl ?_
    simp only [Act.put, List.setIfInBounds_toArray, List.set_cons_succ, List.set_cons_zero]
    refine held_all1 10 (by kernel_rfl) (op_skip 10 _ _ rfl rfl rfl (exec_stores5 _ _ rfl g 0 _ _ _ _ rfl rfl hsC1 (hhd1.frozen 0)) ⟨trivial, ?_⟩)
    refine wpAnyH_done (by kernel_rfl) ?_ _
    refine NoPanic.normal ?_
    have hN1 := hN.now1 hF1 hg1 hl1
    have hB1 := new_below (g := g) (off := 0) (u := .slice ao1 (I + 1) cc1) hB hg1 (fun a e => (World.ownsRow.lt hF.own a e).1) hgb.1
    clear hr1 hF1 hg1 hl1 hsA1 hsB1 hhd1 hsC1 hS0 hN hB hF hG hhd c0 hBs
    generalize w1.setCell ⟨g, 0, none⟩ (.slice ao1 (I + 1) cc1) = wq at *
    obtain ⟨us, hG⟩ := hN1.sure
    have hhd := hN1.head
    have c1 := hhd.cell (j := 1) rfl
    have hBs := hB1.size
    go_wp2_with fail
    have hS0 : wq.drew.cell? ⟨g, 1, none⟩ = some sv := c1
    obtain ⟨v2, w2, hr2, hF2, hg2, hl2⟩ := Fill.more wq.drew hG.drew (by omega) hBs
    have hsA2 : (wq.drew.alloc (.cells zsec 5)).cell? ⟨g, 1, none⟩ = some sv := (hhd.drew.alloc _).cell (j := 1) rfl
    have hsB2 : ((wq.drew.alloc (.cells zsec 5)).alloc (.cells #[.slice (some ⟨wq.heap.size, 0, none⟩) 128 128] 22)).cell? ⟨g, 1, none⟩ = some sv := ((hhd.drew.alloc _).alloc _).cell (j := 1) rfl
    have hhd2 := ((hhd.drew.alloc (.cells zsec 5)).alloc (.cells #[.slice (some ⟨wq.heap.size, 0, none⟩) 128 128] 22)).grown hg2 (fun e => by obtain ⟨cur, hb⟩ := (hG).blk e.symm; exact hhd.ne hb (by decide) rfl)
    have hsC2 := hhd2.cell (j := 1) rfl
    obtain ⟨ao2, cc2, hv2⟩ := hF2.sl
    refine held_begin (fun _ => True) (by kernel_rfl) ?_
    refine held_take 0 31 _ (.pointer (some ⟨g, 0, none⟩)) rfl rfl (by kernel_rfl) (by kernel_rfl) (by kernel_rfl) rfl trivial (fun _ _ => rfl) ?_
    simp only [Act.put, List.setIfInBounds_toArray, List.set_cons_succ, List.set_cons_zero]
    refine held_take 1 32 _ (.pointer (some ⟨g, 0, none⟩)) rfl rfl (by kernel_rfl) (by kernel_rfl) (by kernel_rfl) rfl trivial (fun _ _ => rfl) ?_
    simp only [Act.put, List.setIfInBounds_toArray, List.set_cons_succ, List.set_cons_zero]
    refine held_take 2 33 _ (.pointer (some ⟨g, 0, none⟩)) rfl rfl (by kernel_rfl) (by kernel_rfl) (by kernel_rfl) rfl trivial (fun _ _ => rfl) ?_
    simp only [Act.put, List.setIfInBounds_toArray, List.set_cons_succ, List.set_cons_zero]
    refine held_take 3 34 _ (.pointer (some ⟨g, 1, none⟩)) rfl rfl (by kernel_rfl) (by kernel_rfl) (by kernel_rfl) rfl trivial (fun _ _ => rfl) ?_
    simp only [Act.put, List.setIfInBounds_toArray, List.set_cons_succ, List.set_cons_zero]
    refine any_three 4 5 6 35 36 37 _ _ _ sv _ _ rfl rfl rfl rfl rfl rfl rfl rfl rfl (by kernel_rfl) (by kernel_rfl) (by kernel_rfl) (by kernel_rfl) (by kernel_rfl) (by kernel_rfl) (exec_loadc 39 _ rfl _ _ rfl (load_one 39 (fun _ => by kernel_rfl) _ _ _ _ hS0)) (exec_loadc 39 _ rfl _ _ rfl (load_one 39 (fun _ => by kernel_rfl) _ _ _ _ hsA2)) (exec_loadc 39 _ rfl _ _ rfl (load_one 39 (fun _ => by kernel_rfl) _ _ _ _ hsB2)) (exec_make5 _ _ rfl rfl rfl) (exec_make5 _ _ rfl rfl rfl) (exec_build5 _ rfl (.slice (some ⟨wq.heap.size, 0, none⟩) 128 128) _ _ _ rfl rfl) (exec_build5 _ rfl (.slice (some ⟨wq.heap.size, 0, none⟩) 128 128) _ _ _ rfl rfl) (exec_build5 _ rfl (.slice (some ⟨wq.heap.size, 0, none⟩) 128 128) _ _ _ rfl rfl) rfl rfl rfl rfl ?_
    simp only [Act.put, List.setIfInBounds_toArray, List.set_cons_succ, List.set_cons_zero]
    subst hv2
    refine held_all1 7 (by kernel_rfl) (op_value 7 38 _ _ w2 rfl rfl rfl (exec_app _ _ _ _ rfl _ _ _ rfl rfl hr2) ⟨trivial, ?_⟩)
    simp only [Act.put, List.setIfInBounds_toArray, List.set_cons_succ, List.set_cons_zero]
    refine held_one 8 39 _ (.pointer (some ⟨g, 0, none⟩)) rfl rfl (by kernel_rfl) rfl trivial rfl ?_
    simp only [Act.put, List.setIfInBounds_toArray, List.set_cons_succ, List.set_cons_zero]
    refine held_one 9 40 _ (.pointer (some ⟨g, 1, none⟩)) rfl rfl (by kernel_rfl) rfl trivial rfl ?_
    simp only [Act.put, List.setIfInBounds_toArray, List.set_cons_succ, List.set_cons_zero]
    refine held_all1 10 (by kernel_rfl) (op_skip 10 _ _ rfl rfl rfl (exec_stores5 _ _ rfl g 1 _ _ _ _ rfl rfl hsC2 (hhd2.frozen 1)) ⟨trivial, ?_⟩)
    refine wpAnyH_done (by kernel_rfl) ?_ _
    refine NoPanic.normal ?_
    have hN2 := hN1.sure1 hF2 hg2 hl2
    have hB2 := new_below (g := g) (off := 1) (u := .slice ao2 (I + 1) cc2) hB1 hg2 (fun a e => (World.ownsRow.lt hG.own a e).1) hgb.1
    clear hr2 hF2 hg2 hl2 hsA2 hsB2 hhd2 hsC2 hS0 hN1 hB1 hG hhd c1 hBs
    generalize w2.setCell ⟨g, 1, none⟩ (.slice ao2 (I + 1) cc2) = wz at *
    go_wp2
    go_roundw
    case rel => exact ⟨I + 1, _, _, hlt, by go_num, hN2, hB2⟩
    case measure => simp [intOf]; omega
end Go.Proofs.Ytojgeahablphbaa
