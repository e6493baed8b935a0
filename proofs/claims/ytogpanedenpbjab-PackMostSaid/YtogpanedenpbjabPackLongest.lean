/-
  What is proved here: the statements' own longest lays the record in which all is as long as it may be.
  Conditions: the fields may be, and tell at most 20000 bytes.
-/
import Derived.Test.YtogpanedenpbjabPackLong
import Derived.Test.YtogpanedenpbjabPackStable
import Derived.Test.YtogpanedenpbjabPackRec
namespace Go.Proofs.Ytogpanedenpbjab
open Go.RowKit

theorem Try.info33p : (Try.prog.info? 33).map (fun i => (i.zero, i.size, i.bytes)) = some (some (.agg #[.int .u64 0, .slice none 0 0, .slice none 0 0]), 3, 56) := by kernel_rfl
theorem app_put (w : World) {ops : Array Oper} {rest : List Oper} {o : Oper} {a : Act} {Q : Exit → Act → World → Prop} (hgd : o.guard = none) (s x : Operand)
    (ho : o.op = .call { callee := .builtin .append, args := #[s, x], argTypes := #[34, 34] })
    (base k : Nat) (v : Value) (ps : List Put) (hs : a.eval s = v) (hown : OwnV w base k v ps) (g c : Nat) (p : Put) (hx : a.eval x = .slice (some ⟨g, 0, none⟩) 1 c) (hc : ∀ j u, p.cells[j]? = some u → w.cell? ⟨g, j, none⟩ = some u) (h1 : ∀ u ∈ p.cells, u.oneCell' = true)
    (hp : VOkK w (Apart base v) k p.x p.bv p.lv) (hlen : ps.length ≤ 1000000) (hbase : base ≤ w.heap.size)
    (hK : ∀ v' w', OwnV w' base k v' (ps ++ [p]) → w.grownBy w' v.ownBlock → (v'.ownBlock = v.ownBlock ∨ v'.ownBlock = some w.heap.size) → wpList Try.prog ops Q rest (a.put o.dst v') w') :
    wpList Try.prog ops Q (o :: rest) a w := by
  obtain ⟨i0, hi, hz0, hz1, hz2⟩ := info_parts Try.info33p
  refine wpList_append_own_at w hgd s x 34 ho base 33 i0 (.agg #[.int .u64 0, .slice none 0 0, .slice none 0 0]) 3 56 Try.underlying34 hi hz0 hz1 hz2 rfl (by decide) v ps.length (ps.flatMap Put.cells) hs hown.row ⟨g, 0, none⟩ 1 c p.cells hx rfl (fun j u hu => by rw [Addr.add_mid, Nat.zero_add]; exact hc j u hu) h1 (by unfold maxLen; omega) (by omega) hbase ?_
  intro v' w' h2 h3 _ h5
  exact hK v' w' (hown.more h2 h3 h5 hp) h3 h5
theorem put_cells {W : World} {g : Nat} {p : Put} (h : Blk W g 33 #[.int .u64 (p.x.n : Int), p.bv, p.lv]) : ∀ j u, p.cells[j]? = some u → W.cell? ⟨g, j, none⟩ = some u := fun j u hu => h.cell (by simpa [Put.cells] using hu)
theorem put_one {p : Put} (hb : p.bv.oneCell' = true) (hl : p.lv.oneCell' = true) : ∀ u ∈ p.cells, u.oneCell' = true := fun u hu => by
  simp only [Put.cells, List.mem_cons, List.not_mem_nil, or_false] at hu
  rcases hu with rfl | rfl | rfl
  · rfl
  · exact hb
  · exact hl
theorem vok_num (w : World) (S : Nat → Prop) (k n : Nat) (hn : n < 18446744073709551616) : VOkK w S k (.mk n [] []) (.slice none 0 0) (.slice none 0 0) := fun W _ =>
  ⟨⟨.inl ⟨rfl, none, 0, rfl, fun _ => rfl⟩, Nat.zero_le _⟩, ⟨none, 0, rfl, Nat.zero_le _, fun h => by cases h⟩, hn⟩
theorem OwnV.blk_lt {w : World} {base k : Nat} {v : Value} {ps : List Put} (h : OwnV w base k v ps) : ∀ q, v.ownBlock = some q → base ≤ q ∧ q < w.heap.size := fun q hq => by
  rcases h.row.2 with ⟨h1, _⟩ | ⟨g, cap, cur, h1, h2, h3, _⟩
  · rw [h1] at hq; cases hq
  · rw [h1] at hq
    obtain rfl : g = q := Option.some.inj hq
    exact ⟨h2, (Array.getElem?_eq_some_iff.1 h3).1⟩
theorem Try.info34p : (Try.prog.info? 34).map (fun i => (i.zero, i.size, i.bytes)) = some (some (.slice none 0 0), 1, 24) := by kernel_rfl
theorem Try.under31p : Try.prog.underlying 31 = some (.slice 34) := by kernel_rfl
theorem app_rec (w : World) {ops : Array Oper} {rest : List Oper} {o : Oper} {a : Act} {Q : Exit → Act → World → Prop} (hgd : o.guard = none) (s x : Operand)
    (ho : o.op = .call { callee := .builtin .append, args := #[s, x], argTypes := #[31, 31] })
    (base : Nat) (v : Value) (n : Nat) (xs : List Value) (hs : a.eval s = v) (hown : w.ownsRow base 34 1 v n xs) (g c : Nat) (u : Value) (hx : a.eval x = .slice (some ⟨g, 0, none⟩) 1 c) (hc : w.cell? ⟨g, 0, none⟩ = some u) (h1 : u.oneCell' = true)
    (hlen : n ≤ 1000000) (hbase : base ≤ w.heap.size)
    (hK : ∀ v' w', w'.ownsRow base 34 1 v' (n + 1) (xs ++ [u]) → w.grownBy w' v.ownBlock → wpList Try.prog ops Q rest (a.put o.dst v') w') :
    wpList Try.prog ops Q (o :: rest) a w := by
  obtain ⟨i0, hi, hz0, hz1, hz2⟩ := info_parts Try.info34p
  refine wpList_append_own_at w hgd s x 31 ho base 34 i0 (.slice none 0 0) 1 24 Try.under31p hi hz0 hz1 hz2 rfl (by decide) v n xs hs hown ⟨g, 0, none⟩ 1 c [u] hx rfl (fun j y hy => ?_) (fun y hy => ?_) (by unfold maxLen; omega) (by omega) hbase ?_
  · match j, hy with
    | 0, hy => cases hy; exact hc
    | (j + 1), hy => cases hy
  · obtain rfl : y = u := by simpa using hy
    exact h1
  intro v' w' h2 h3 _ _
  exact hK v' w' h2 h3
theorem row_alloc {w : World} {base : Nat} {e : TypeId} {size : Nat} {v : Value} {n : Nat} {xs : List Value} (h : w.ownsRow base e size v n xs) (o : Obj) : (w.alloc o).ownsRow base e size v n xs := by
  refine ⟨h.1, ?_⟩
  rcases h.2 with h2 | ⟨g, cap, cur, h1, h2, h3, h4⟩
  · exact .inl h2
  · exact .inr ⟨g, cap, cur, h1, h2, by rw [Below.heap_alloc w o g (Array.getElem?_eq_some_iff.1 h3).1]; exact h3, h4⟩
theorem row_set {w : World} {base : Nat} {e : TypeId} {size : Nat} {v : Value} {n : Nat} {xs : List Value} (h : w.ownsRow base e size v n xs) (a : Addr) (u : Value) (hne : a.block < base) : (w.setCell a u).ownsRow base e size v n xs := by
  refine ⟨h.1, ?_⟩
  rcases h.2 with h2 | ⟨g, cap, cur, h1, h2, h3, h4⟩
  · exact .inl h2
  · exact .inr ⟨g, cap, cur, h1, h2, by rw [Below.heap_setCell w a u g (by omega)]; exact h3, h4⟩
/-- Blocks from g on are as they were. -/
def SameFrom (g : Nat) (w W : World) : Prop := w.heap.size ≤ W.heap.size ∧ ∀ b, g ≤ b → b < w.heap.size → W.heap[b]? = w.heap[b]?
theorem SameFrom.agree {g : Nat} {w W : World} (h : SameFrom g w W) : Agree w W (fun b => g ≤ b) := ⟨h.1, fun b o hb hl => World.cell?_of_block (w := w) (w' := W) (a := ⟨b, o, none⟩) (h.2 b hb hl)⟩
theorem SameFrom.next {g : Nat} {w W W5 : World} {o : Obj} {lv v5 : Value} {a : Addr} (h : SameFrom g w W) (hg : (W.alloc o).grownBy W5 lv.ownBlock) (hl : ∀ q, lv.ownBlock = some q → w.heap.size ≤ q) (ha : a.block < g) : SameFrom g w (W5.setCell a v5) := by
  have h1 := h.1
  have s1 : (W.alloc o).heap.size = W.heap.size + 1 := by simp
  have s2 := hg.size
  have s3 : (W5.setCell a v5).heap.size = W5.heap.size := by simp
  refine ⟨by omega, fun b hb hlt => ?_⟩
  rw [Below.heap_setCell W5 a v5 b (by omega), ← h.2 b hb hlt, ← Below.heap_alloc W o b (by omega)]
  exact (hg.block b (by omega) (fun e => by have := hl b e.symm; omega))
theorem SameFrom.alloc {g : Nat} {w W : World} (h : SameFrom g w W) (o : Obj) : SameFrom g w (W.alloc o) := ⟨by have := h.1; simp; omega, fun b hb hl => by rw [Below.heap_alloc W o b (Nat.lt_of_lt_of_le hl h.1)]; exact h.2 b hb hl⟩
theorem vals_form {w : World} : ∀ {k : Nat} {v : Value} {l : List Val}, Vals w k v l → ∃ ao n c, v = .slice ao n c
  | 0, _, _, ⟨h, _⟩ => ⟨_, _, _, h⟩
  | _ + 1, _, _, ⟨_, _, h, _⟩ => ⟨_, _, _, h⟩
theorem row_sl {w : World} {base : Nat} {e : TypeId} {size : Nat} {v : Value} {n : Nat} {xs : List Value} (h : w.ownsRow base e size v n xs) : ∃ ao n c, v = .slice ao n c := by
  rcases h.2 with ⟨h1, _⟩ | ⟨g, cap, cur, h1, _⟩ <;> exact ⟨_, _, _, h1⟩
theorem row_cell1 {w : World} {base : Nat} {e : TypeId} {size : Nat} {v : Value} {n : Nat} {xs : List Value} (h : w.ownsRow base e size v n xs) : v.oneCell' = true := by
  rcases h.2 with ⟨h1, _⟩ | ⟨g, cap, cur, h1, _⟩ <;> rw [h1] <;> rfl
theorem vok_recs {w : World} {S : Nat → Prop} {k m base : Nat} {lv one : Value} {L : List Val} (hrow : w.ownsRow base 34 1 lv m (List.replicate m one)) (hv : ValsK w S k one L) (hS : ∀ b, base ≤ b → S b) (hm : m ≤ 1000000) : VOkK w S k (.mk 0 [] (List.replicate m L)) (.slice none 0 0) lv := fun W hW => by
  refine ⟨⟨.inl ⟨rfl, none, 0, rfl, fun _ => rfl⟩, Nat.zero_le _⟩, ?_, by show 0 < _; decide⟩
  show ∃ ao c, lv = .slice ao (List.replicate m L).length c ∧ (List.replicate m L).length ≤ maxLen ∧ (0 < (List.replicate m L).length → ∃ b off, ao = some ⟨b, off, none⟩ ∧ b < W.heap.size ∧ (List.replicate m L).length ≤ c ∧ ∀ j r, (List.replicate m L)[j]? = some r → ∃ rv, W.cell? ⟨b, off + j, none⟩ = some rv ∧ Vals W k rv r)
  rw [List.length_replicate]
  rcases hrow.2 with ⟨h1, h2⟩ | ⟨g, cap, cur, h1, h2, h3, h4, h5⟩
  · subst h2
    exact ⟨none, 0, h1, Nat.zero_le _, fun h => by cases h⟩
  · have hl : g < w.heap.size := (Array.getElem?_eq_some_iff.1 h3).1
    refine ⟨_, cap, h1, by unfold maxLen; omega, fun _ => ⟨g, 0, rfl, Nat.lt_of_lt_of_le hl hW.1, h4, fun j r hr => ?_⟩⟩
    obtain ⟨hj, rfl⟩ : j < m ∧ L = r := by
      rw [List.getElem?_replicate] at hr
      split at hr
      · next h => exact ⟨h, Option.some.inj hr⟩
      · cases hr
    refine ⟨one, ?_, hv W hW⟩
    rw [Nat.zero_add, hW.2 g j (hS g h2) hl]
    have := World.ownsRow.cells hrow (g := g) (by rw [h1]; rfl) j one (by rw [List.getElem?_replicate, if_pos hj])
    rw [Addr.add_mid, Nat.zero_add] at this
    exact this
def zs (k : Nat) : Array Value := ((List.replicate k (0 : UInt8)).map v8).toArray
theorem made_zeros (k : Nat) : madeCells #[Value.int .u8 0] k = zs k := by
  unfold zs
  apply Array.ext
  · simp [madeCells]
  · intro i h1 h2
    have : v8 0 = Value.int .u8 0 := rfl
    simp [madeCells, this, Nat.mod_one]
theorem make_zs (k : Nat) (hk : k ≤ 1000000) (w : World) :
    (Instr.makeSlice 27 (.int .u64 (k : Int)) (.int .u64 (k : Int))).run Try.prog w = .ok (.slice (some ⟨w.heap.size, 0, none⟩) k k) (w.alloc (.cells (zs k) 5)) := by
  obtain ⟨i0, hi, hz0, hz1, hz2⟩ := info_parts Try.info5
  have := run_make (P := Try.prog) w 27 5 i0 (.int .u8 0) Try.underlying27 hi hz0 .u64 .u64 ((k : Nat) : Int) ((k : Nat) : Int) (by omega) (by omega) (by rw [hz2]; omega) (by omega)
  rw [this, hz1, Int.toNat_natCast, Nat.mul_one]
  rw [show (Value.int IntKind.u8 0).cells = #[Value.int .u8 0] from rfl, made_zeros]
theorem vok_zs {w : World} {S : Nat → Prop} {k m g : Nat} (h : Blk w g 5 (zs m)) (hS : S g) (hm : m ≤ 1000000) : VOkK w S k (.mk 0 (List.replicate m 0) []) (.slice (some ⟨g, 0, none⟩) m m) (.slice none 0 0) := fun W hW => by
  refine ⟨⟨Seg.of_row (fun j hj => ?_) (List.length_replicate ..) (Nat.le_refl _) (Nat.lt_of_lt_of_le h.lt hW.1), by show (List.replicate m (0 : UInt8)).length ≤ maxLen; rw [List.length_replicate]; unfold maxLen; omega⟩, ⟨none, 0, rfl, Nat.zero_le _, fun h => by cases h⟩, by show 0 < _; decide⟩
  rw [hW.2 g _ hS h.lt]
  exact Blk.row (bs := List.replicate m 0) h j hj
def longSaid (r : Nat) : Prop := ∀ (n : Nat) (lv : Value) (l : List Fld) (M : Nat) (w : World), mostL r l = some M → Flds w n lv l →
    Calls Try.prog 10 #[lv] w fun e w' => ∃ v, e = .returned v ∧ ValsK w' (fun b => w.heap.size ≤ b) r v (longL r l) ∧ Below w.heap.size w w'

set_option maxRecDepth 100000 in
set_option maxHeartbeats 4000000 in
theorem longest_any (r : Nat) : longSaid r := by
  induction r with
  | zero =>
    intro n lv l M w h
    simp [mostL] at h
  | succ r ih =>
    intro n lv l M w hM hFl
    obtain ⟨hSum, hl1, hl16, hMb⟩ := mostL_succ hM
    obtain ⟨ao, c, hlv, hlm, hFc⟩ := hFl.form
    unfold maxLen at hlm
    subst hlv
    have HSum : Hid (mostSum (mostL r) l = some M) := hSum
    obtain ⟨bF, offF, hao, hbF, hcF, hF⟩ := hFc (by omega)
    subst hao
    obtain ⟨len, hle⟩ : ∃ len, l.length = len := ⟨_, rfl⟩
    rw [hle] at hl1 hl16 hlm hcF ⊢
    have HLE : Hid (l.length = len) := hle
    clear hle hSum
    go_enter Try.func10, Try.ntmps10
    go_wp2
    go_loopw [3, 4] (fun u i wr => ∃ (I : Nat) (ps : List Put), I ≤ len ∧ i = .int .i64 (I : Int) ∧ OwnV wr w.heap.size r u ps ∧ ps.map Put.x = (l.take I).map (longOne (longL r)) ∧ Below w.heap.size w wr) (fun _ i _ => len - (intOf i).toNat)
    case atStart => exact ⟨0, [], Nat.zero_le _, rfl, OwnV.nil _ _ _, rfl, Below.refl _ _⟩
    case round =>
      obtain ⟨I, ps, hI, rfl, hO, hps, hB⟩ := hrel
      have hpl : ps.length = I := by
        have h1 := congrArg List.length hps
        have := HLE.out
        simp at h1
        omega
      have HPS : Hid (ps.map Put.x = (l.take I).map (longOne (longL r))) := hps
      clear hps
      have s1 := hB.size
      by_cases hlt : I < len
      · obtain ⟨f, hf1⟩ : ∃ f, l[I]? = some f := ⟨l[I]'(by have := HLE.out; omega), List.getElem?_eq_getElem (by have := HLE.out; omega)⟩
        obtain ⟨a, S', hmo, hS', hSa⟩ := mostSum_part _ l M I f HSum.out hf1
        have HN : Hid (∀ p : Put, p.x = longOne (longL r) f → (ps ++ [p]).map Put.x = (l.take (I + 1)).map (longOne (longL r))) := fun p hp => by rw [List.map_append, HPS.out, List.take_add_one, hf1, List.map_append, List.map_singleton, hp]; rfl
        have K := Keeps.of_below hB (Nat.le_refl _)
        obtain ⟨f0, f1, f2, ⟨o, f3, hof⟩, hmn, hmx⟩ := hF I f hf1
        have c0 := K.cell f0
        have c2 := K.cell f2
        have c3 := K.cell f3
        have i1 : (I : Int) < (len : Int) := by omega
        have hbFr : bF < wr.heap.size := by omega
        have hbFn : bF ≠ wr.heap.size := by omega
        have hm65 : (f.kind == 1) = false → f.max ≤ 65536 := fun h => by
          rcases mostOne_min hmo with ⟨_, h2⟩ | ⟨h2, _⟩
          · exact h2
          · rw [h2] at h; cases h
        by_cases hk1 : f.kind = 1
        · have hx : Hid (longOne (longL r) f = .mk f.max [] []) := by show _ = _; unfold longOne; rw [if_pos hk1]
          have j1 : (f.kind == 1) = true := by simpa using hk1
          clear hk1
          have hw1 : Below w.heap.size w ((wr.alloc (.cells #[.int .u64 (f.max : Int), .slice none 0 0, .slice none 0 0] 33)).alloc (.cells #[.int .u64 (f.max : Int), .slice none 0 0, .slice none 0 0] 33)) := (hB.alloc s1 _).alloc (by simp; omega) _
          have hw2 : Below wr.heap.size wr ((wr.alloc (.cells #[.int .u64 (f.max : Int), .slice none 0 0, .slice none 0 0] 33)).alloc (.cells #[.int .u64 (f.max : Int), .slice none 0 0, .slice none 0 0] 33)) := ((Below.refl _ _).alloc (Nat.le_refl _) _).alloc (by simp) _
          go_wp2_with (at_builtin; refine app_put _ rfl (.tmp 60) (.tmp 62) rfl w.heap.size r _ ps rfl (by exact hO.after hw2 (Nat.le_refl _)) (wr.heap.size + 1) 1 ⟨.mk f.max [] [], .slice none 0 0, .slice none 0 0⟩ rfl (by exact put_cells (Blk.newAt _ _ _ _ (by simp))) (put_one rfl rfl) (vok_num _ _ _ _ hmx) (by omega) (by simp; omega) ?_; intro v3 w3 hO3 hg3 hv3; have hB3 := below_grown hw1 hg3 (by simp; omega) (fun q hq => (hO.blk_lt q hq).1); clear hg3 hv3)
          go_roundw
          case rel => exact ⟨I + 1, _, hlt, by go_num, hO3, HN.out _ hx.out.symm, hB3⟩
          case measure => simp [intOf]; omega
        by_cases hk2 : f.kind = 2
        · have hx : Hid (longOne (longL r) f = .mk 0 (List.replicate f.max 0) []) := by show _ = _; unfold longOne; rw [if_neg hk1, if_pos hk2]
          have j1 : (f.kind == 1) = false := by simpa using hk1
          have j2 : (f.kind == 2) = true := by simpa using hk2
          clear hk1 hk2
          have hm6 : f.max ≤ 65536 := hm65 j1
          have hmk := make_zs f.max (by omega)
          obtain ⟨W, hW⟩ : ∃ W, W = (((wr.alloc (.cells #[.int .u64 0, .slice (some ⟨wr.heap.size + 1, 0, none⟩) f.max f.max, .slice none 0 0] 33)).alloc (.cells (zs f.max) 5)).alloc (.cells #[.int .u64 0, .slice (some ⟨wr.heap.size + 1, 0, none⟩) f.max f.max, .slice none 0 0] 33)) := ⟨_, rfl⟩
          have hw1 : Below w.heap.size w W := by rw [hW]; exact ((hB.alloc s1 _).alloc (by simp; omega) _).alloc (by simp; omega) _
          have hw2 : Below wr.heap.size wr W := by rw [hW]; exact (((Below.refl _ _).alloc (Nat.le_refl _) _).alloc (by simp) _).alloc (by simp; omega) _
          have hw3 : Blk W (wr.heap.size + 1) 5 (zs f.max) := by rw [hW]; exact (Blk.newAt _ _ _ _ (by simp)).alloc _
          have hw4 : Blk W (wr.heap.size + 1 + 1) 33 #[.int .u64 0, .slice (some ⟨wr.heap.size + 1, 0, none⟩) f.max f.max, .slice none 0 0] := by rw [hW]; exact Blk.newAt _ _ _ _ (by simp)
          have hw5 : w.heap.size ≤ W.heap.size := hw1.size
          have hw6 : Apart w.heap.size u3 (wr.heap.size + 1) := ⟨by omega, fun e => by have := (hO.blk_lt _ e).2; omega⟩
          rw [hW] at hw1 hw2 hw3 hw4 hw5
          clear hW W
          go_wp2_with (at_builtin; refine app_put _ rfl (.tmp 60) (.tmp 62) rfl w.heap.size r _ ps rfl (by exact hO.after hw2 (Nat.le_refl _)) (wr.heap.size + 1 + 1) 1 ⟨.mk 0 (List.replicate f.max 0) [], .slice (some ⟨wr.heap.size + 1, 0, none⟩) f.max f.max, .slice none 0 0⟩ rfl (by exact put_cells hw4) (put_one rfl rfl) (by exact vok_zs hw3 hw6 (by omega)) (by omega) (by exact hw5) ?_; intro v3 w3 hO3 hg3 hv3; have hB3 := below_grown hw1 hg3 hw5 (fun q hq => (hO.blk_lt q hq).1); clear hg3 hv3)
          go_roundw
          case rel => exact ⟨I + 1, _, hlt, by go_num, hO3, HN.out _ hx.out.symm, hB3⟩
          case measure => simp [intOf]; omega
        obtain ⟨hk3, m, hm, hma⟩ := mostOne_of hmo hk1 hk2
        have hx : Hid (longOne (longL r) f = .mk 0 [] (List.replicate f.max (longL r f.of))) := by show _ = _; unfold longOne; rw [if_neg hk1, if_neg hk2, if_pos hk3]
        have j1 : (f.kind == 1) = false := by simpa using hk1
        have j2 : (f.kind == 2) = false := by simpa using hk2
        have j3 : (f.kind == 3) = true := by simpa using hk3
        have hm6 : f.max ≤ 65536 := hm65 j1
        clear hk1 hk2 hk3
        obtain ⟨wo, rfl⟩ : ∃ wo : World, wo = wr := ⟨_, rfl⟩
        have HC : Hid (Calls Try.prog 10 #[o] (wo.alloc (.cells #[.int .u64 0, .slice none 0 0, .slice none 0 0] 33)) fun e w' => ∃ v, e = .returned v ∧ ValsK w' (fun b => (wo.alloc (.cells #[.int .u64 0, .slice none 0 0, .slice none 0 0] 33)).heap.size ≤ b) r v (longL r f.of) ∧ Below (wo.alloc (.cells #[.int .u64 0, .slice none 0 0, .slice none 0 0] 33)).heap.size (wo.alloc (.cells #[.int .u64 0, .slice none 0 0, .slice none 0 0] 33)) w') := ih (n - 1) o f.of m _ hm (Flds.keeps (K.trans (Keeps.of_below ((Below.refl _ _).alloc (Nat.le_refl _) _) (Nat.le_refl _))) _ _ _ hof)
        go_wp2_with (go_at_call 10; refine HC.out.mono ?_; rintro e w4 ⟨one, rfl, hV4, hB4⟩)
        have hz4 : (wo.alloc (.cells #[.int .u64 0, .slice none 0 0, .slice none 0 0] 33)).heap.size = wo.heap.size + 1 := by simp
        have hs4 := hB4.size
        rw [hz4] at hs4 hV4
        have hv4 : Blk w4 wo.heap.size 33 #[.int .u64 0, .slice none 0 0, .slice none 0 0] := (Blk.new wo _ _).below hB4 (by simp)
        have hBo4 : Below wo.heap.size wo w4 := ((Below.refl _ _).alloc (Nat.le_refl _) _).trans (hB4.mono (by simp))
        obtain ⟨ao1, n1, c1, rfl⟩ := vals_form (hV4 _ (Agree.refl _ _))
        clear HC hB4 hz4
        go_loopw [7] (fun k wq => ∃ (j : Nat) (lv : Value), j ≤ f.max ∧ k = .int .u64 (j : Int) ∧ Blk wq wo.heap.size 33 #[.int .u64 0, .slice none 0 0, lv] ∧ wq.ownsRow w4.heap.size 34 1 lv j (List.replicate j (.slice ao1 n1 c1)) ∧ SameFrom (wo.heap.size + 1) w4 wq ∧ Below wo.heap.size wo wq) (fun k _ => f.max - (intOf k).toNat)
        case atStart => exact ⟨0, .slice none 0 0, Nat.zero_le _, rfl, hv4, World.ownsRow_nil _ _ _ _, ⟨Nat.le_refl _, fun _ _ _ => rfl⟩, hBo4⟩
        case round =>
          obtain ⟨j, lv, hj, rfl, hvq, hrow, hAg, hBo⟩ := hrel
          have sq := hAg.1
          have Kq := Keeps.of_below hBo (Nat.le_refl _)
          have c2q := Kq.cell c2
          have d0 := hvq.cell (j := 0) rfl
          have d1 := hvq.cell (j := 1) rfl
          have d2 := hvq.cell (j := 2) rfl
          have hbFq : bF ≠ wr.heap.size := by omega
          have hvne : wo.heap.size ≠ wr.heap.size := by omega
          by_cases hjl : j < f.max
          · have i2 : (j : Int) < (f.max : Int) := by omega
            have hrl := hrow.lt
            go_wp2_with (at_builtin; refine app_rec _ rfl (.tmp 55) (.tmp 57) rfl w4.heap.size lv j _ rfl (by exact row_alloc hrow _) wr.heap.size 1 (.slice ao1 n1 c1) rfl (by exact (Blk.new _ _ _).cell rfl) rfl (by omega) (by simp; omega) ?_; intro v5 w5 hr5 hg5; obtain ⟨ao5, n5, c5, rfl⟩ := row_sl hr5; have hvv := (hvq.alloc _).grown hg5 (fun e => by have := (hrl _ e.symm).1; omega); have d5 := hvv.cell (j := 2) rfl; have z5 := hvv.frozen 2)
            go_roundw
            case rel => exact ⟨j + 1, .slice ao5 n5 c5, hjl, by go_num, hvv.set 2 _, row_set (by rw [List.replicate_succ']; exact hr5) _ _ (by show wo.heap.size < _; omega), hAg.next hg5 (fun q hq => (hrl q hq).1) (by show wo.heap.size < _; omega), (below_grown (hBo.alloc (by omega) _) hg5 (by simp; omega) (fun q hq => by have := (hrl q hq).1; omega)).setCell (Nat.le_refl _) _⟩
            case measure => simp [intOf]; omega
          · have i2 : ¬ (j : Int) < (f.max : Int) := by omega
            have HJ : Hid (j = f.max) := by show _ = _; omega
            have hap : ∀ b, wo.heap.size + 1 ≤ b → Apart w.heap.size u3 b := fun b hb => ⟨by omega, fun e => by have := (hO.blk_lt _ e).2; omega⟩
            have hw1 : Below w.heap.size w (wr.alloc (.cells #[.int .u64 0, .slice none 0 0, lv] 33)) := (hB.trans (hBo.mono s1)).alloc (by omega) _
            have hw2 : Below wo.heap.size wo (wr.alloc (.cells #[.int .u64 0, .slice none 0 0, lv] 33)) := hBo.alloc (by omega) _
            have hw3 : VOkK (wr.alloc (.cells #[.int .u64 0, .slice none 0 0, lv] 33)) (Apart w.heap.size u3) r (.mk 0 [] (List.replicate j (longL r f.of))) (.slice none 0 0) lv := vok_recs (row_alloc hrow _) (hV4.step (hAg.alloc _).agree (fun b _ hb => hap b hb)) (fun b hb => hap b (by omega)) (by omega)
            have hlv := row_cell1 hrow
            have hw5 : w.heap.size ≤ (wr.alloc (.cells #[.int .u64 0, .slice none 0 0, lv] 33)).heap.size := hw1.size
            go_wp2_with (at_builtin; refine app_put _ rfl (.tmp 60) (.tmp 62) rfl w.heap.size r _ ps rfl (by exact hO.after hw2 (Nat.le_refl _)) wr.heap.size 1 ⟨.mk 0 [] (List.replicate j (longL r f.of)), .slice none 0 0, lv⟩ rfl (by exact put_cells (Blk.new _ _ _)) (put_one rfl hlv) (by exact hw3) (by omega) (by exact hw5) ?_; intro v6 w6 hO6 hg6 hv6; have hB6 := below_grown hw1 hg6 hw5 (fun q hq => (hO.blk_lt q hq).1); clear hg6 hv6)
            go_roundw
            case rel => exact ⟨I + 1, _, hlt, by go_num, hO6, HN.out _ (by rw [hx.out, ← HJ.out]), hB6⟩
            case measure => simp [intOf]; omega
      · have i1 : ¬ (I : Int) < (len : Int) := by omega
        have HE : Hid (ps.map Put.x = longL (r + 1) l) := by
          show _ = _
          rw [HPS.out, List.take_of_length_le (by have := HLE.out; omega)]
          rfl
        go_wp2
        go_ret
        refine ⟨_, rfl, ?_, hB⟩
        rw [← HE.out]
        exact hO.vals (by unfold maxLen; omega)
end Go.Proofs.Ytogpanedenpbjab
