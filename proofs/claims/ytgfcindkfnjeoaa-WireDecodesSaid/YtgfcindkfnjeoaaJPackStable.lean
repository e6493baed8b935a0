/-
  What is proved here: values that a call lays itself: a slice of values of its own that grows, and values that lie apart from it. pack's takeList takes values of fields one by one. pack's takeList takes records one by one.
  Conditions: those that each fact names.
-/
import Derived.Test.YtgfcindkfnjeoaaJPackWidth
import Derived.Test.YtgfcindkfnjeoaaJPackTake
namespace Go.Proofs.Ytgfcindkfnjeoaa
open Go.RowKit

/-- Two worlds agree on blocks of a kind. -/
def Agree (w W : World) (S : Nat → Prop) : Prop := w.heap.size ≤ W.heap.size ∧ ∀ b o, S b → b < w.heap.size → W.cell? ⟨b, o, none⟩ = w.cell? ⟨b, o, none⟩
theorem Agree.refl (w : World) (S : Nat → Prop) : Agree w w S := ⟨Nat.le_refl _, fun _ _ _ _ => rfl⟩
theorem Agree.of_keeps {w W : World} (h : Keeps w W) (S : Nat → Prop) : Agree w W S := ⟨h.1, fun b o _ hb => h.2 b o hb⟩
/-- A value's bytes and records lie here. -/
def VOk (w : World) (k : Nat) (x : Val) (bv lv : Value) : Prop :=
  (Seg w bv x.b ∧ x.b.length ≤ maxLen) ∧ (∃ ao c, lv = .slice ao x.l.length c ∧ x.l.length ≤ maxLen ∧ (0 < x.l.length → ∃ b off, ao = some ⟨b, off, none⟩ ∧ b < w.heap.size ∧ x.l.length ≤ c ∧ ∀ j r, x.l[j]? = some r → ∃ rv, w.cell? ⟨b, off + j, none⟩ = some rv ∧ Vals w k rv r)) ∧ x.n < 18446744073709551616
/-- .. and in every world that agrees on blocks of the kind. -/
def VOkK (w : World) (S : Nat → Prop) (k : Nat) (x : Val) (bv lv : Value) : Prop := ∀ W, Agree w W S → VOk W k x bv lv
def ValsK (w : World) (S : Nat → Prop) (k : Nat) (v : Value) (l : List Val) : Prop := ∀ W, Agree w W S → Vals W k v l
theorem VOkK.step {w w' : World} {S S' : Nat → Prop} {k : Nat} {x : Val} {bv lv : Value} (h : VOkK w S k x bv lv) (ha : Agree w w' S) (hS : ∀ b, b < w.heap.size → S b → S' b) : VOkK w' S' k x bv lv := fun W hW => h W ⟨Nat.le_trans ha.1 hW.1, fun b o hb hl => (hW.2 b o (hS b hl hb) (Nat.lt_of_lt_of_le hl ha.1)).trans (ha.2 b o hb hl)⟩
theorem ValsK.step {w w' : World} {S S' : Nat → Prop} {k : Nat} {v : Value} {l : List Val} (h : ValsK w S k v l) (ha : Agree w w' S) (hS : ∀ b, b < w.heap.size → S b → S' b) : ValsK w' S' k v l := fun W hW => h W ⟨Nat.le_trans ha.1 hW.1, fun b o hb hl => (hW.2 b o (hS b hl hb) (Nat.lt_of_lt_of_le hl ha.1)).trans (ha.2 b o hb hl)⟩

/-- A value with where its bytes and records are. -/
structure Put where
  x : Val
  bv : Value
  lv : Value
def Put.cells (p : Put) : List Value := [.int .u64 (p.x.n : Int), p.bv, p.lv]
/-- Blocks of the call's own, but for this slice's. -/
def Apart (base : Nat) (v : Value) (b : Nat) : Prop := base ≤ b ∧ v.ownBlock ≠ some b
/-- A slice of values of the call's own. -/
structure OwnV (w : World) (base k : Nat) (v : Value) (ps : List Put) : Prop where
  row : w.ownsRow base 68 3 v ps.length (ps.flatMap Put.cells)
  each : ∀ p ∈ ps, VOkK w (Apart base v) k p.x p.bv p.lv
theorem OwnV.nil (w : World) (base k : Nat) : OwnV w base k (.slice none 0 0) [] := ⟨⟨rfl, .inl ⟨rfl, rfl⟩⟩, fun _ h => by cases h⟩
theorem flat_atK : ∀ (ps : List Put) (i j : Nat) (p : Put), ps[i]? = some p → j < 3 → (ps.flatMap Put.cells)[i * 3 + j]? = p.cells[j]?
  | [], _, _, _, h, _ => by simp at h
  | q :: ps, 0, j, p, h, hj => by
    simp at h
    subst h
    rw [List.flatMap_cons, Nat.zero_mul, Nat.zero_add, List.getElem?_append_left (by show j < 3; exact hj)]
  | q :: ps, i + 1, j, p, h, hj => by
    rw [List.flatMap_cons, List.getElem?_append_right (by show 3 ≤ _; omega)]
    have e : (i + 1) * 3 + j - q.cells.length = i * 3 + j := by show (i + 1) * 3 + j - 3 = _; omega
    rw [e]
    exact flat_atK ps i j p (by simpa using h) hj
/-- It is a slice of values in every world that agrees on the call's own blocks. -/
theorem OwnV.vals {w : World} {base k : Nat} {v : Value} {ps : List Put} (h : OwnV w base k v ps) (hm : ps.length ≤ maxLen) : ValsK w (fun b => base ≤ b) (k + 1) v (ps.map Put.x) := fun W hW => by
  rcases Nat.eq_zero_or_pos ps.length with h0 | h0
  · obtain rfl := List.eq_nil_of_length_eq_zero h0
    rcases h.row.2 with ⟨h1, _⟩ | ⟨g, cap, cur, h1, _⟩
    · exact ⟨none, 0, h1, Nat.zero_le _, fun h => by cases h⟩
    · exact ⟨_, cap, h1, Nat.zero_le _, fun h => by cases h⟩
  · obtain ⟨g, cap, hv, hb, hl⟩ := World.ownsRow.form h.row h0
    have hcap : ps.length ≤ cap := by
      rcases h.row.2 with ⟨h1, _⟩ | ⟨g', cap', cur, h1, _, _, h4, _⟩
      · rw [hv] at h1; cases h1
      · rw [hv] at h1; cases h1; exact h4
    have hcell : ∀ j u, (ps.flatMap Put.cells)[j]? = some u → W.cell? ⟨g, j, none⟩ = some u := fun j u hu => by
      have h1 := World.ownsRow.cells h.row (g := g) (by rw [hv]; rfl) j u hu
      rw [Addr.add_mid, Nat.zero_add] at h1
      rw [hW.2 g j hb hl, h1]
    refine ⟨some ⟨g, 0, none⟩, cap, by rw [hv, List.length_map], by rw [List.length_map]; exact hm, fun _ => ⟨g, 0, rfl, Nat.lt_of_lt_of_le hl hW.1, by rw [List.length_map]; exact hcap, fun i x hx => ?_⟩⟩
    rw [List.getElem?_map, Option.map_eq_some_iff] at hx
    obtain ⟨p, hp, rfl⟩ := hx
    have hpm := List.mem_of_getElem? hp
    obtain ⟨hsb, ⟨ao, c, hlv, hll, hrec⟩, hn⟩ := h.each p hpm W ⟨hW.1, fun b o hS hl => hW.2 b o hS.1 hl⟩
    rw [Nat.zero_add]
    refine ⟨?_, ⟨p.bv, hcell _ _ (flat_atK ps i 1 p hp (by omega)), hsb⟩, ⟨ao, c, ?_, hll, hrec⟩, hn⟩
    · exact hcell _ _ ((flat_atK ps i 0 p hp (by omega)).trans rfl)
    · rw [← hlv]; exact hcell _ _ (flat_atK ps i 2 p hp (by omega))
/-- What else the world holds may change. -/
theorem OwnV.after {w w' : World} {base k B : Nat} {v : Value} {ps : List Put} (h : OwnV w base k v ps) (hb : Below B w w') (hB : w.heap.size ≤ B) : OwnV w' base k v ps := by
  refine ⟨⟨h.row.1, ?_⟩, fun p hp => (h.each p hp).step (Agree.of_keeps (Keeps.of_below hb hB) _) (fun _ _ h => h)⟩
  rcases h.row.2 with h2 | ⟨g, cap, cur, h1, h2, h3, h4⟩
  · exact .inl h2
  · exact .inr ⟨g, cap, cur, h1, h2, by rw [hb.block g (Nat.lt_of_lt_of_le (Array.getElem?_eq_some_iff.1 h3).1 hB)]; exact h3, h4⟩
/-- One more value. -/
theorem OwnV.more {w w' : World} {base k : Nat} {v v' : Value} {ps : List Put} {p : Put} (h : OwnV w base k v ps) (hr : w'.ownsRow base 68 3 v' (ps.length + 1) (ps.flatMap Put.cells ++ p.cells)) (hg : w.grownBy w' v.ownBlock) (hv : v'.ownBlock = v.ownBlock ∨ v'.ownBlock = some w.heap.size) (hp : VOkK w (Apart base v) k p.x p.bv p.lv) : OwnV w' base k v' (ps ++ [p]) := by
  have ha : Agree w w' (Apart base v) := ⟨hg.size, fun b o hS hl => hg.cell_far ⟨b, o, none⟩ hl (fun e => hS.2 e.symm)⟩
  have hS : ∀ b, b < w.heap.size → Apart base v b → Apart base v' b := fun b hl hb => ⟨hb.1, by
    rcases hv with e | e
    · rw [e]; exact hb.2
    · rw [e]; intro h2; have := Option.some.inj h2; omega⟩
  refine ⟨?_, fun q hq => ?_⟩
  · rw [List.length_append, List.flatMap_append]
    simpa using hr
  · rcases List.mem_append.1 hq with h1 | h1
    · exact (h.each q h1).step ha hS
    · obtain rfl : q = p := by simpa using h1
      exact hp.step ha hS
end Go.Proofs.Ytgfcindkfnjeoaa
namespace Go.Proofs.Ytgfcindkfnjeoaa
open Go.RowKit

theorem OwnV.grown {w w' : World} {base k g : Nat} {v : Value} {ps : List Put} (h : OwnV w base k v ps) (hg : w.grownBy w' (some g)) (hb : g < base) : OwnV w' base k v ps := by
  refine ⟨⟨h.row.1, ?_⟩, fun p hp => (h.each p hp).step ⟨hg.size, fun b o hS hl => World.cell?_of_block (w := w) (w' := w') (a := ⟨b, o, none⟩) (hg.block b hl (fun e => by have := Option.some.inj e; have := hS.1; omega))⟩ (fun _ _ h => h)⟩
  rcases h.row.2 with h2 | ⟨q, cap, cur, h1, h2, h3, h4⟩
  · exact .inl h2
  · exact .inr ⟨q, cap, cur, h1, h2, by rw [hg.block q (Array.getElem?_eq_some_iff.1 h3).1 (fun e => by have := Option.some.inj e; omega)]; exact h3, h4⟩
theorem Try.info68p : (Try.prog.info? 68).map (fun i => (i.zero, i.size, i.bytes)) = some (some (.agg #[.int .u64 0, .slice none 0 0, .slice none 0 0]), 3, 56) := by kernel_rfl
theorem app_put (w : World) {ops : Array Oper} {rest : List Oper} {o : Oper} {a : Act} {Q : Exit → Act → World → Prop} (hgd : o.guard = none) (s x : Operand)
    (ho : o.op = .call { callee := .builtin .append, args := #[s, x], argTypes := #[42, 42] })
    (base k : Nat) (v : Value) (ps : List Put) (hs : a.eval s = v) (hown : OwnV w base k v ps) (g c : Nat) (p : Put) (hx : a.eval x = .slice (some ⟨g, 0, none⟩) 1 c) (hc : ∀ j u, p.cells[j]? = some u → w.cell? ⟨g, j, none⟩ = some u) (h1 : ∀ u ∈ p.cells, u.oneCell' = true)
    (hp : VOkK w (Apart base v) k p.x p.bv p.lv) (hlen : ps.length ≤ 1000000) (hbase : base ≤ w.heap.size)
    (hK : ∀ v' w', OwnV w' base k v' (ps ++ [p]) → w.grownBy w' v.ownBlock → (v'.ownBlock = v.ownBlock ∨ v'.ownBlock = some w.heap.size) → wpList Try.prog ops Q rest (a.put o.dst v') w') :
    wpList Try.prog ops Q (o :: rest) a w := by
  obtain ⟨i0, hi, hz0, hz1, hz2⟩ := info_parts Try.info68p
  refine wpList_append_own_at w hgd s x 42 ho base 68 i0 (.agg #[.int .u64 0, .slice none 0 0, .slice none 0 0]) 3 56 Try.underlying42 hi hz0 hz1 hz2 rfl (by decide) v ps.length (ps.flatMap Put.cells) hs hown.row ⟨g, 0, none⟩ 1 c p.cells hx rfl (fun j u hu => by rw [Addr.add_mid, Nat.zero_add]; exact hc j u hu) h1 (by unfold maxLen; omega) (by omega) hbase ?_
  intro v' w' h2 h3 _ h5
  exact hK v' w' (hown.more h2 h3 h5 hp) h3 h5
theorem put_cells {W : World} {g : Nat} {p : Put} (h : Blk W g 68 #[.int .u64 (p.x.n : Int), p.bv, p.lv]) : ∀ j u, p.cells[j]? = some u → W.cell? ⟨g, j, none⟩ = some u := fun j u hu => h.cell (by simpa [Put.cells] using hu)
theorem put_one {p : Put} (hb : p.bv.oneCell' = true) (hl : p.lv.oneCell' = true) : ∀ u ∈ p.cells, u.oneCell' = true := fun u hu => by
  simp only [Put.cells, List.mem_cons, List.not_mem_nil, or_false] at hu
  rcases hu with rfl | rfl | rfl
  · rfl
  · exact hb
  · exact hl
theorem OwnV.blk_lt {w : World} {base k : Nat} {v : Value} {ps : List Put} (h : OwnV w base k v ps) : ∀ q, v.ownBlock = some q → base ≤ q ∧ q < w.heap.size := fun q hq => by
  rcases h.row.2 with ⟨h1, _⟩ | ⟨g, cap, cur, h1, h2, h3, _⟩
  · rw [h1] at hq; cases hq
  · rw [h1] at hq
    obtain rfl : g = q := Option.some.inj hq
    exact ⟨h2, (Array.getElem?_eq_some_iff.1 h3).1⟩
theorem grown_own {a b c : World} {g : Nat} {row : Option Nat} (h : a.grownBy b (some g)) (k : b.grownBy c row) (hr : ∀ q, row = some q → a.heap.size ≤ q) : a.grownBy c (some g) := ⟨k.os.trans h.os, k.tape.trans h.tape, k.output.trans h.output, Nat.le_trans h.size k.size, fun x hx hn => (k.block x (Nat.lt_of_lt_of_le hx h.size) (fun e => by have := hr _ e.symm; omega)).trans (h.block x hx hn)⟩
/-- What a closure has captured lies here. -/
structure Cap (w : World) (g br bl : Nat) (t : TypeId) (cs : Array Value) : Prop where
  r : Blk w br 98 #[.pointer (some ⟨g, 0, none⟩)]
  l : Blk w bl t cs
  nr : br ≠ g
  nl : bl ≠ g
theorem Cap.grown {w w' : World} {g br bl : Nat} {t : TypeId} {cs : Array Value} {row : Option Nat} (h : Cap w g br bl t cs) (hg : w.grownBy w' row) (hr : ∀ k, row = some k → k = g ∨ w.heap.size ≤ k) : Cap w' g br bl t cs := by
  have hlr := h.r.lt
  have hll := h.l.lt
  exact ⟨h.r.grown hg (fun e => by rcases hr _ e.symm with h1 | h1; exact h.nr h1; omega), h.l.grown hg (fun e => by rcases hr _ e.symm with h1 | h1; exact h.nl h1; omega), h.nr, h.nl⟩
/-- A value of the call's own. -/
def NewV (r base : Nat) (x : Val) (v : Value) (w' : World) : Prop := ∃ ab nb cb al nl cl, v = .agg #[.int .u64 (x.n : Int), .slice ab nb cb, .slice al nl cl] ∧ VOkK w' (fun b => base ≤ b) r x (.slice ab nb cb) (.slice al nl cl)
def zeroV : Value := .agg #[.int .u64 0, .slice none 0 0, .slice none 0 0]
def rec1Said (r : Nat) (l : List Fld) (lv : Value) (w0 : World) (g : Nat) : Prop := ∀ (i : Nat) (f : Fld) (br bl : Nat) (s : List UInt8) (w : World), l[i]? = some f → Reads w0 w g s → Cap w g br bl 40 #[lv] →
    Calls Try.prog 64 #[.int .i64 (i : Int), .pointer (some ⟨br, 0, none⟩), .pointer (some ⟨bl, 0, none⟩)] w fun e w' => takePost w0 w g (oneD (decL r) f s) (fun x v w' => NewV r w.heap.size x v w') zeroV e w'

set_option maxRecDepth 100000 in
set_option maxHeartbeats 2000000 in
theorem listV_any (r : Nat) (l : List Fld) (lv : Value) (w0 : World) (g : Nat) (hC : rec1Said r l lv w0 g) (hlen : l.length ≤ 16) (br bl : Nat) (s : List UInt8) (w : World) (hR : Reads w0 w g s) (hCap : Cap w g br bl 40 #[lv]) :
    Calls Try.prog 63 #[.int .i64 (l.length : Int), .func (.func 64) #[] #[.pointer (some ⟨br, 0, none⟩), .pointer (some ⟨bl, 0, none⟩)]] w fun e w' => takePost w0 w g (seqD (oneD (decL r)) l s) (fun v val w' => ValsK w' (fun b => w.heap.size ≤ b) (r + 1) val v) (.slice none 0 0) e w' := by
  obtain ⟨len, hle⟩ : ∃ len, l.length = len := ⟨_, rfl⟩
  have HLE : Hid (l.length = len) := hle
  rw [hle] at hlen ⊢
  clear hle
  obtain ⟨res, hres⟩ : ∃ res, res = seqD (oneD (decL r)) l s := ⟨_, rfl⟩
  rw [← hres]
  have HRES : Hid (res = seqD (oneD (decL r)) l s) := hres
  clear hres
  have HC : Hid (rec1Said r l lv w0 g) := hC
  clear hC
  have hgw : g < w.heap.size := by obtain ⟨_, _, _, _, hb, _⟩ := hR; exact hb.lt
  go_enter Try.func63, Try.ntmps63
  go_wp2
  go_loopw [6, 11] (fun u i wr => ∃ (I : Nat) (ps : List Put) (s' : List UInt8), I ≤ len ∧ i = .int .i64 (I : Int) ∧ OwnV wr w.heap.size r u ps ∧ ps.length = I ∧ seqD (oneD (decL r)) (l.take I) s = some (ps.map Put.x, s') ∧ Reads w0 wr g s' ∧ w.grownBy wr (some g)) (fun _ i _ => len - (intOf i).toNat)
  case atStart => exact ⟨0, [], s, Nat.zero_le _, rfl, OwnV.nil _ _ _, rfl, rfl, hR, grown_refl _ _⟩
  case round =>
    obtain ⟨I, ps, s', hI, rfl, hO, hpl, hps, hR', hG⟩ := hrel
    have HPS : Hid (seqD (oneD (decL r)) (l.take I) s = some (ps.map Put.x, s')) := hps
    clear hps
    have hCap' : Cap wr g br bl 40 #[lv] := hCap.grown hG (fun k hk => .inl (Option.some.inj hk).symm)
    have s1 := hG.size
    by_cases hlt : I < len
    · have i1 : (I : Int) < (len : Int) := by omega
      obtain ⟨f, hf1⟩ : ∃ f, l[I]? = some f := ⟨l[I]'(by have := HLE.out; omega), List.getElem?_eq_getElem (by have := HLE.out; omega)⟩
      have HCI : Hid (∀ W, Reads w0 W g s' → Cap W g br bl 40 #[lv] → Calls Try.prog 64 #[.int .i64 (I : Int), .pointer (some ⟨br, 0, none⟩), .pointer (some ⟨bl, 0, none⟩)] W fun e w' => takePost w0 W g (oneD (decL r) f s') (fun x v w' => NewV r W.heap.size x v w') zeroV e w') := fun W h1 h2 => HC.out I f br bl s' W hf1 h1 h2
      unfold zeroV at HCI
      cases hone : oneD (decL r) f s' with
      | none =>
        rw [hone] at HCI
        have HE : Hid (res = none) := by
          show _ = _
          rw [HRES.out]
          exact seqD_none _ l (I + 1) s (by rw [seqD_snoc _ l I f hf1, HPS.out, Option.bind_some, hone]; rfl)
        clear hone
        go_wp2_with (go_at_call 64; refine (HCI.out _ (by exact hR') (by exact hCap')).mono ?_; rintro e w3 ⟨⟨s3, rfl, hR3⟩, hg3⟩)
        go_ret2
        rw [HE.out]
        have hb3 := (Below.refl _ w3).alloc (Nat.le_refl _) (.cells #[.int .u64 0, .slice none 0 0, .slice none 0 0] 68)
        exact ⟨⟨s3, rfl, hR3.below hb3⟩, grown_transB hG (grown_transB hg3 (grows_below hb3 _))⟩
      | some q =>
        obtain ⟨x, s''⟩ := q
        rw [hone] at HCI
        have HN : Hid (seqD (oneD (decL r)) (l.take (I + 1)) s = some (ps.map Put.x ++ [x], s'')) := by
          show _ = _
          rw [seqD_snoc _ l I f hf1, HPS.out, Option.bind_some, hone]
          rfl
        clear hone
        go_wp2_with (first | (go_at_call 64; refine (HCI.out _ (by exact hR') (by exact hCap')).mono ?_; rintro e w3 ⟨⟨v3, rfl, ⟨ab, nb, cb, al, nl, cl, rfl, hv3⟩, hR3⟩, hg3⟩; have s3 := hg3.size; obtain ⟨W, hW⟩ : ∃ W, W = ((w3.alloc (.cells #[.int .u64 (x.n : Int), .slice ab nb cb, .slice al nl cl] 68)).alloc (.cells #[.int .u64 (x.n : Int), .slice ab nb cb, .slice al nl cl] 68)) := ⟨_, rfl⟩; have hW1 : Below w3.heap.size w3 W := (by rw [hW]; exact ((Below.refl _ _).alloc (Nat.le_refl _) _).alloc (by simp) _); have hW2 := hW1.size; have hW3 : Blk W (w3.heap.size + 1) 68 #[.int .u64 (x.n : Int), .slice ab nb cb, .slice al nl cl] := (by rw [hW]; exact Blk.newAt _ _ _ _ (by simp)); rw [hW] at hW1 hW2 hW3; clear hW W; have hx1 : (x, s'').1 = x := rfl; rw [hx1] at *) | (at_builtin; refine app_put _ rfl (.tmp 22) (.tmp 24) rfl w.heap.size r _ ps rfl (by exact (hO.grown hg3 hgw).after hW1 (Nat.le_refl _)) (w3.heap.size + 1) 1 ⟨x, .slice ab nb cb, .slice al nl cl⟩ rfl (by exact put_cells hW3) (put_one rfl rfl) (by exact hv3.step (Agree.of_keeps (Keeps.of_below hW1 (Nat.le_refl _)) _) (fun b _ hb => ⟨by omega, fun e => by have := (hO.blk_lt _ e).2; omega⟩)) (by omega) (by omega) ?_; intro v4 w4 hO4 hg4 hv4) | fail)
        have hG4 := grown_own (grown_transB hG (grown_transB hg3 (grows_below hW1 _))) hg4 (fun q hq => (hO.blk_lt q hq).1)
        have hR4 := (hR3.below hW1).grown hg4 (fun e => by have := (hO.blk_lt _ e.symm).1; omega) (fun q hq => by have := (hO.blk_lt q hq).1; have := hR.1; omega)
        go_roundw
        case rel => exact ⟨I + 1, _, s'', hlt, by go_num, hO4, by simp [hpl], by rw [List.map_append]; exact HN.out, hR4, hG4⟩
        case measure => simp [intOf]; omega
    · have i1 : ¬ (I : Int) < (len : Int) := by omega
      have HE : Hid (res = some (ps.map Put.x, s')) := by
        show _ = _
        rw [HRES.out, ← HPS.out, List.take_of_length_le (by have := HLE.out; omega)]
      go_wp2
      go_ret2
      rw [HE.out]
      exact ⟨⟨_, rfl, hO.vals (by unfold maxLen; omega), hR'⟩, hG⟩
end Go.Proofs.Ytgfcindkfnjeoaa
namespace Go.Proofs.Ytgfcindkfnjeoaa
open Go.RowKit

theorem Try.info42p : (Try.prog.info? 42).map (fun i => (i.zero, i.size, i.bytes)) = some (some (.slice none 0 0), 1, 24) := by kernel_rfl
theorem Try.under66p : Try.prog.underlying 66 = some (.slice 42) := by kernel_rfl
theorem app_recK (w : World) {ops : Array Oper} {rest : List Oper} {o : Oper} {a : Act} {Q : Exit → Act → World → Prop} (hgd : o.guard = none) (s x : Operand)
    (ho : o.op = .call { callee := .builtin .append, args := #[s, x], argTypes := #[66, 66] })
    (base : Nat) (v : Value) (n : Nat) (xs : List Value) (hs : a.eval s = v) (hown : w.ownsRow base 42 1 v n xs) (g c : Nat) (u : Value) (hx : a.eval x = .slice (some ⟨g, 0, none⟩) 1 c) (hc : w.cell? ⟨g, 0, none⟩ = some u) (h1 : u.oneCell' = true)
    (hlen : n ≤ 1000000) (hbase : base ≤ w.heap.size)
    (hK : ∀ v' w', w'.ownsRow base 42 1 v' (n + 1) (xs ++ [u]) → w.grownBy w' v.ownBlock → (v'.ownBlock = v.ownBlock ∨ v'.ownBlock = some w.heap.size) → wpList Try.prog ops Q rest (a.put o.dst v') w') :
    wpList Try.prog ops Q (o :: rest) a w := by
  obtain ⟨i0, hi, hz0, hz1, hz2⟩ := info_parts Try.info42p
  refine wpList_append_own_at w hgd s x 66 ho base 42 i0 (.slice none 0 0) 1 24 Try.under66p hi hz0 hz1 hz2 rfl (by decide) v n xs hs hown ⟨g, 0, none⟩ 1 c [u] hx rfl (fun j y hy => ?_) (fun y hy => ?_) (by unfold maxLen; omega) (by omega) hbase ?_
  · match j, hy with
    | 0, hy => cases hy; exact hc
    | (j + 1), hy => cases hy
  · obtain rfl : y = u := by simpa using hy
    exact h1
  intro v' w' h2 h3 _ h5
  exact hK v' w' h2 h3 h5
theorem vals_form {w : World} : ∀ {k : Nat} {v : Value} {l : List Val}, Vals w k v l → ∃ ao n c, v = .slice ao n c
  | 0, _, _, ⟨h, _⟩ => ⟨_, _, _, h⟩
  | _ + 1, _, _, ⟨_, _, h, _⟩ => ⟨_, _, _, h⟩
/-- A slice of records of the call's own. -/
structure OwnR (w : World) (base k : Nat) (v : Value) (qs : List (Value × List Val)) : Prop where
  row : w.ownsRow base 42 1 v qs.length (qs.map Prod.fst)
  each : ∀ q ∈ qs, ValsK w (Apart base v) k q.1 q.2
theorem OwnR.nil (w : World) (base k : Nat) : OwnR w base k (.slice none 0 0) [] := ⟨⟨rfl, .inl ⟨rfl, rfl⟩⟩, fun _ h => by cases h⟩
theorem OwnR.blk_lt {w : World} {base k : Nat} {v : Value} {ps : List (Value × List Val)} (h : OwnR w base k v ps) : ∀ q, v.ownBlock = some q → base ≤ q ∧ q < w.heap.size := h.row.lt
theorem OwnR.grown {w w' : World} {base k g : Nat} {v : Value} {ps : List (Value × List Val)} (h : OwnR w base k v ps) (hg : w.grownBy w' (some g)) (hb : g < base) : OwnR w' base k v ps := by
  refine ⟨⟨h.row.1, ?_⟩, fun p hp => (h.each p hp).step ⟨hg.size, fun b o hS hl => World.cell?_of_block (w := w) (w' := w') (a := ⟨b, o, none⟩) (hg.block b hl (fun e => by have := Option.some.inj e; have := hS.1; omega))⟩ (fun _ _ h => h)⟩
  rcases h.row.2 with h2 | ⟨q, cap, cur, h1, h2, h3, h4⟩
  · exact .inl h2
  · exact .inr ⟨q, cap, cur, h1, h2, by rw [hg.block q (Array.getElem?_eq_some_iff.1 h3).1 (fun e => by have := Option.some.inj e; omega)]; exact h3, h4⟩
theorem OwnR.after {w w' : World} {base k : Nat} {v : Value} {ps : List (Value × List Val)} (h : OwnR w base k v ps) (hb : Below w.heap.size w w') : OwnR w' base k v ps := by
  refine ⟨⟨h.row.1, ?_⟩, fun p hp => (h.each p hp).step (Agree.of_keeps (Keeps.of_below hb (Nat.le_refl _)) _) (fun _ _ h => h)⟩
  rcases h.row.2 with h2 | ⟨q, cap, cur, h1, h2, h3, h4⟩
  · exact .inl h2
  · exact .inr ⟨q, cap, cur, h1, h2, by rw [hb.block q (Array.getElem?_eq_some_iff.1 h3).1]; exact h3, h4⟩
theorem OwnR.more {w w' : World} {base k : Nat} {v v' : Value} {ps : List (Value × List Val)} {p : Value × List Val} (h : OwnR w base k v ps) (hr : w'.ownsRow base 42 1 v' (ps.length + 1) (ps.map Prod.fst ++ [p.1])) (hg : w.grownBy w' v.ownBlock) (hv : v'.ownBlock = v.ownBlock ∨ v'.ownBlock = some w.heap.size) (hp : ValsK w (Apart base v) k p.1 p.2) : OwnR w' base k v' (ps ++ [p]) := by
  have ha : Agree w w' (Apart base v) := ⟨hg.size, fun b o hS hl => hg.cell_far ⟨b, o, none⟩ hl (fun e => hS.2 e.symm)⟩
  have hS : ∀ b, b < w.heap.size → Apart base v b → Apart base v' b := fun b hl hb => ⟨hb.1, by
    rcases hv with e | e
    · rw [e]; exact hb.2
    · rw [e]; intro h2; have := Option.some.inj h2; omega⟩
  refine ⟨?_, fun q hq => ?_⟩
  · rw [List.length_append, List.map_append]
    simpa using hr
  · rcases List.mem_append.1 hq with h1 | h1
    · exact (h.each q h1).step ha hS
    · obtain rfl : q = p := by simpa using h1
      exact hp.step ha hS
theorem OwnR.vok {w : World} {base k : Nat} {v : Value} {ps : List (Value × List Val)} (h : OwnR w base k v ps) (hm : ps.length ≤ 1000000) : VOkK w (fun b => base ≤ b) k (.mk 0 [] (ps.map Prod.snd)) (.slice none 0 0) v := fun W hW => by
  refine ⟨⟨.inl ⟨rfl, none, 0, rfl, fun _ => rfl⟩, Nat.zero_le _⟩, ?_, by show 0 < _; decide⟩
  show ∃ ao c, v = .slice ao (ps.map Prod.snd).length c ∧ (ps.map Prod.snd).length ≤ maxLen ∧ (0 < (ps.map Prod.snd).length → ∃ b off, ao = some ⟨b, off, none⟩ ∧ b < W.heap.size ∧ (ps.map Prod.snd).length ≤ c ∧ ∀ j r, (ps.map Prod.snd)[j]? = some r → ∃ rv, W.cell? ⟨b, off + j, none⟩ = some rv ∧ Vals W k rv r)
  rw [List.length_map]
  rcases h.row.2 with ⟨h1, h2⟩ | ⟨g, cap, cur, h1, h2, h3, h4, h5⟩
  · rw [h2]
    exact ⟨none, 0, h1, Nat.zero_le _, fun h => by cases h⟩
  · have hl : g < w.heap.size := (Array.getElem?_eq_some_iff.1 h3).1
    refine ⟨_, cap, h1, by unfold maxLen; omega, fun _ => ⟨g, 0, rfl, Nat.lt_of_lt_of_le hl hW.1, h4, fun j r hr => ?_⟩⟩
    rw [List.getElem?_map, Option.map_eq_some_iff] at hr
    obtain ⟨q, hq, rfl⟩ := hr
    refine ⟨q.1, ?_, h.each q (List.mem_of_getElem? hq) W ⟨hW.1, fun b o hS hl => hW.2 b o hS.1 hl⟩⟩
    rw [Nat.zero_add, hW.2 g j h2 hl]
    have := World.ownsRow.cells h.row (g := g) (by rw [h1]; rfl) j q.1 (by rw [List.getElem?_map, hq]; rfl)
    rw [Addr.add_mid, Nat.zero_add] at this
    exact this
theorem OwnR.sl {w : World} {base k : Nat} {v : Value} {ps : List (Value × List Val)} (h : OwnR w base k v ps) : ∃ ao n c, v = .slice ao n c := by
  rcases h.row.2 with ⟨h1, _⟩ | ⟨g, cap, cur, h1, _⟩ <;> exact ⟨_, _, _, h1⟩
def val1Said (r : Nat) (f : Fld) (o : Value) (w0 : World) (g : Nat) : Prop := ∀ (i : Int) (br bl : Nat) (s : List UInt8) (w : World), Reads w0 w g s → Cap w g br bl 62 #[.int .i64 f.kind, .int .u64 (f.min : Int), .int .u64 (f.max : Int), o] →
    Calls Try.prog 78 #[.int .i64 i, .pointer (some ⟨br, 0, none⟩), .pointer (some ⟨bl, 0, none⟩)] w fun e w' => takePost w0 w g (decL r f.of s) (fun v val w' => ValsK w' (fun b => w.heap.size ≤ b) r val v) (.slice none 0 0) e w'

set_option maxRecDepth 100000 in
set_option maxHeartbeats 2000000 in
theorem listR_any (r : Nat) (f : Fld) (o : Value) (w0 : World) (g : Nat) (hC : val1Said r f o w0 g) (n : Nat) (hlen : n ≤ 65536) (br bl : Nat) (s : List UInt8) (w : World) (hR : Reads w0 w g s) (hCap : Cap w g br bl 62 #[.int .i64 f.kind, .int .u64 (f.min : Int), .int .u64 (f.max : Int), o]) :
    Calls Try.prog 77 #[.int .i64 (n : Int), .func (.func 78) #[] #[.pointer (some ⟨br, 0, none⟩), .pointer (some ⟨bl, 0, none⟩)]] w fun e w' => takePost w0 w g (manyD (decL r f.of) n s) (fun L val w' => (∃ al nl cl, val = .slice al nl cl) ∧ VOkK w' (fun b => w.heap.size ≤ b) r (.mk 0 [] L) (.slice none 0 0) val) (.slice none 0 0) e w' := by
  obtain ⟨res, hres⟩ : ∃ res, res = manyD (decL r f.of) n s := ⟨_, rfl⟩
  rw [← hres]
  have HRES : Hid (res = manyD (decL r f.of) n s) := hres
  clear hres
  have HC : Hid (val1Said r f o w0 g) := hC
  clear hC
  have hgw : g < w.heap.size := by obtain ⟨_, _, _, _, hb, _⟩ := hR; exact hb.lt
  go_enter Try.func77, Try.ntmps77
  go_wp2
  go_loopw [6, 11] (fun u i wr => ∃ (I : Nat) (ps : List (Value × List Val)) (s' : List UInt8), I ≤ n ∧ i = .int .i64 (I : Int) ∧ OwnR wr w.heap.size r u ps ∧ ps.length = I ∧ manyD (decL r f.of) I s = some (ps.map Prod.snd, s') ∧ Reads w0 wr g s' ∧ w.grownBy wr (some g)) (fun _ i _ => n - (intOf i).toNat)
  case atStart => exact ⟨0, [], s, Nat.zero_le _, rfl, OwnR.nil _ _ _, rfl, rfl, hR, grown_refl _ _⟩
  case round =>
    obtain ⟨I, ps, s', hI, rfl, hO, hpl, hps, hR', hG⟩ := hrel
    have HPS : Hid (manyD (decL r f.of) I s = some (ps.map Prod.snd, s')) := hps
    clear hps
    have hCap' : Cap wr g br bl 62 #[.int .i64 f.kind, .int .u64 (f.min : Int), .int .u64 (f.max : Int), o] := hCap.grown hG (fun k hk => .inl (Option.some.inj hk).symm)
    have s1 := hG.size
    by_cases hlt : I < n
    · have i1 : (I : Int) < (n : Int) := by omega
      have HCI : Hid (∀ W, Reads w0 W g s' → Cap W g br bl 62 #[.int .i64 f.kind, .int .u64 (f.min : Int), .int .u64 (f.max : Int), o] → Calls Try.prog 78 #[.int .i64 (I : Int), .pointer (some ⟨br, 0, none⟩), .pointer (some ⟨bl, 0, none⟩)] W fun e w' => takePost w0 W g (decL r f.of s') (fun v val w' => ValsK w' (fun b => W.heap.size ≤ b) r val v) (.slice none 0 0) e w') := fun W h1 h2 => HC.out I br bl s' W h1 h2
      cases hone : decL r f.of s' with
      | none =>
        rw [hone] at HCI
        have HE : Hid (res = none) := by
          show _ = _
          rw [HRES.out]
          exact manyD_none _ s (show I + 1 ≤ n from hlt) (by rw [manyD_snoc, HPS.out, Option.bind_some, hone]; rfl)
        clear hone
        go_wp2_with (go_at_call 78; refine (HCI.out _ (by exact hR') (by exact hCap')).mono ?_; rintro e w3 ⟨⟨s3, rfl, hR3⟩, hg3⟩)
        go_ret2
        rw [HE.out]
        exact ⟨⟨s3, rfl, hR3⟩, grown_transB hG hg3⟩
      | some q =>
        obtain ⟨x, s''⟩ := q
        rw [hone] at HCI
        have HN : Hid (manyD (decL r f.of) (I + 1) s = some (ps.map Prod.snd ++ [x], s'')) := by
          show _ = _
          rw [manyD_snoc, HPS.out, Option.bind_some, hone]
          rfl
        clear hone
        go_wp2_with (first | (go_at_call 78; refine (HCI.out _ (by exact hR') (by exact hCap')).mono ?_; rintro e w3 ⟨⟨v3, rfl, hv3, hR3⟩, hg3⟩; obtain ⟨a3, n3, c3, rfl⟩ := vals_form (hv3 _ (Agree.refl _ _)); have s3 := hg3.size; have hW1 : Below w3.heap.size w3 (w3.alloc (.cells #[.slice a3 n3 c3] 42)) := ((Below.refl _ _).alloc (Nat.le_refl _) _); have hW2 := hW1.size) | (at_builtin; refine app_recK _ rfl (.tmp 22) (.tmp 24) rfl w.heap.size _ ps.length _ rfl (by exact ((hO.grown hg3 hgw).after hW1).row) w3.heap.size 1 (.slice a3 n3 c3) rfl (by exact (Blk.new _ _ _).cell rfl) rfl (by omega) (by omega) ?_; intro v4 w4 hr4 hg4 hv4) | fail)
        have hO4 := ((hO.grown hg3 hgw).after hW1).more (p := (.slice a3 n3 c3, x)) hr4 hg4 hv4 (hv3.step (Agree.of_keeps (Keeps.of_below hW1 (Nat.le_refl _)) _) (fun b _ hb => ⟨by omega, fun e => by have := (hO.blk_lt _ e).2; omega⟩))
        have hG4 := grown_own (grown_transB hG (grown_transB hg3 (grows_below hW1 _))) hg4 (fun q hq => (hO.blk_lt q hq).1)
        have hR4 := (hR3.below hW1).grown hg4 (fun e => by have := (hO.blk_lt _ e.symm).1; omega) (fun q hq => by have := (hO.blk_lt q hq).1; have := hR.1; omega)
        go_roundw
        case rel => exact ⟨I + 1, _, s'', hlt, by go_num, hO4, by simp [hpl], by rw [List.map_append]; exact HN.out, hR4, hG4⟩
        case measure => simp [intOf]; omega
    · have i1 : ¬ (I : Int) < (n : Int) := by omega
      have HE : Hid (res = some (ps.map Prod.snd, s')) := by
        show _ = _
        rw [HRES.out, ← HPS.out, show n = I by omega]
      obtain ⟨ao, no, co, rfl⟩ := hO.sl
      go_wp2
      go_ret2
      rw [HE.out]
      refine ⟨⟨.slice ao no co, rfl, ?_, hR'⟩, hG⟩
      exact ⟨⟨ao, no, co, rfl⟩, hO.vok (by omega)⟩
end Go.Proofs.Ytgfcindkfnjeoaa
