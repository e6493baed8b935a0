/-
  What is proved here: pack's takeList takes values of fields one by one.
  Conditions: those that each fact names.
-/
import Derived.Test.YtjepeonekhhgfaaPackAmount
import Derived.Test.YtjepeonekhhgfaaPackStable
namespace Go.Proofs.Ytjepeonekhhgfaa
open Go.RowKit

theorem OwnV.grown {w w' : World} {base k g : Nat} {v : Value} {ps : List Put} (h : OwnV w base k v ps) (hg : w.grownBy w' (some g)) (hb : g < base) : OwnV w' base k v ps := by
  refine ⟨⟨h.row.1, ?_⟩, fun p hp => (h.each p hp).step ⟨hg.size, fun b o hS hl => World.cell?_of_block (w := w) (w' := w') (a := ⟨b, o, none⟩) (hg.block b hl (fun e => by have := Option.some.inj e; have := hS.1; omega))⟩ (fun _ _ h => h)⟩
  rcases h.row.2 with h2 | ⟨q, cap, cur, h1, h2, h3, h4⟩
  · exact .inl h2
  · exact .inr ⟨q, cap, cur, h1, h2, by rw [hg.block q (Array.getElem?_eq_some_iff.1 h3).1 (fun e => by have := Option.some.inj e; omega)]; exact h3, h4⟩
theorem Try.info42p : (Try.prog.info? 42).map (fun i => (i.zero, i.size, i.bytes)) = some (some (.agg #[.int .u64 0, .slice none 0 0, .slice none 0 0]), 3, 56) := by kernel_rfl
theorem app_put (w : World) {ops : Array Oper} {rest : List Oper} {o : Oper} {a : Act} {Q : Exit → Act → World → Prop} (hgd : o.guard = none) (s x : Operand)
    (ho : o.op = .call { callee := .builtin .append, args := #[s, x], argTypes := #[27, 27] })
    (base k : Nat) (v : Value) (ps : List Put) (hs : a.eval s = v) (hown : OwnV w base k v ps) (g c : Nat) (p : Put) (hx : a.eval x = .slice (some ⟨g, 0, none⟩) 1 c) (hc : ∀ j u, p.cells[j]? = some u → w.cell? ⟨g, j, none⟩ = some u) (h1 : ∀ u ∈ p.cells, u.oneCell' = true)
    (hp : VOkK w (Apart base v) k p.x p.bv p.lv) (hlen : ps.length ≤ 1000000) (hbase : base ≤ w.heap.size)
    (hK : ∀ v' w', OwnV w' base k v' (ps ++ [p]) → w.grownBy w' v.ownBlock → (v'.ownBlock = v.ownBlock ∨ v'.ownBlock = some w.heap.size) → wpList Try.prog ops Q rest (a.put o.dst v') w') :
    wpList Try.prog ops Q (o :: rest) a w := by
  obtain ⟨i0, hi, hz0, hz1, hz2⟩ := info_parts Try.info42p
  refine wpList_append_own_at w hgd s x 27 ho base 42 i0 (.agg #[.int .u64 0, .slice none 0 0, .slice none 0 0]) 3 56 Try.underlying27 hi hz0 hz1 hz2 rfl (by decide) v ps.length (ps.flatMap Put.cells) hs hown.row ⟨g, 0, none⟩ 1 c p.cells hx rfl (fun j u hu => by rw [Addr.add_mid, Nat.zero_add]; exact hc j u hu) h1 (by unfold maxLen; omega) (by omega) hbase ?_
  intro v' w' h2 h3 _ h5
  exact hK v' w' (hown.more h2 h3 h5 hp) h3 h5
theorem put_cells {W : World} {g : Nat} {p : Put} (h : Blk W g 42 #[.int .u64 (p.x.n : Int), p.bv, p.lv]) : ∀ j u, p.cells[j]? = some u → W.cell? ⟨g, j, none⟩ = some u := fun j u hu => h.cell (by simpa [Put.cells] using hu)
theorem put_one {p : Put} (hb : p.bv.oneCell' = true) (hl : p.lv.oneCell' = true) : ∀ u ∈ p.cells, u.oneCell' = true := fun u hu => by
  simp only [Put.cells, List.mem_cons, List.not_mem_nil, or_false] at hu
  rcases hu with rfl | rfl | rfl
  · rfl
  · exact hb
  · exact hl
theorem OwnV.blk_lt {w : World} {base k : Nat} {v : Value} {ps : List Put} (h : OwnV w base k v ps) : ∀ q, v.ownBlock = some q → base ≤ q ∧ q < w.heap.size := fun q hq => by
  rcases h.row.2 with ⟨h1, _⟩ | ⟨g, cap, cur, h1, h2, h3, _⟩
  · rw [h1] at hq; cases hq
  · rw [h1] at hq
    obtain rfl : g = q := Option.some.inj hq
    exact ⟨h2, (Array.getElem?_eq_some_iff.1 h3).1⟩
theorem grown_own {a b c : World} {g : Nat} {row : Option Nat} (h : a.grownBy b (some g)) (k : b.grownBy c row) (hr : ∀ q, row = some q → a.heap.size ≤ q) : a.grownBy c (some g) := ⟨k.os.trans h.os, k.tape.trans h.tape, k.output.trans h.output, Nat.le_trans h.size k.size, fun x hx hn => (k.block x (Nat.lt_of_lt_of_le hx h.size) (fun e => by have := hr _ e.symm; omega)).trans (h.block x hx hn)⟩
/-- What a closure has captured lies here. -/
structure Cap (w : World) (g br bl : Nat) (t : TypeId) (cs : Array Value) : Prop where
  r : Blk w br 64 #[.pointer (some ⟨g, 0, none⟩)]
  l : Blk w bl t cs
  nr : br ≠ g
  nl : bl ≠ g
theorem Cap.grown {w w' : World} {g br bl : Nat} {t : TypeId} {cs : Array Value} {row : Option Nat} (h : Cap w g br bl t cs) (hg : w.grownBy w' row) (hr : ∀ k, row = some k → k = g ∨ w.heap.size ≤ k) : Cap w' g br bl t cs := by
  have hlr := h.r.lt
  have hll := h.l.lt
  exact ⟨h.r.grown hg (fun e => by rcases hr _ e.symm with h1 | h1; exact h.nr h1; omega), h.l.grown hg (fun e => by rcases hr _ e.symm with h1 | h1; exact h.nl h1; omega), h.nr, h.nl⟩
/-- A value of the call's own. -/
def NewV (r base : Nat) (x : Val) (v : Value) (w' : World) : Prop := ∃ ab nb cb al nl cl, v = .agg #[.int .u64 (x.n : Int), .slice ab nb cb, .slice al nl cl] ∧ VOkK w' (fun b => base ≤ b) r x (.slice ab nb cb) (.slice al nl cl)
def zeroV : Value := .agg #[.int .u64 0, .slice none 0 0, .slice none 0 0]
def rec1Said (r : Nat) (l : List Fld) (lv : Value) (w0 : World) (g : Nat) : Prop := ∀ (i : Nat) (f : Fld) (br bl : Nat) (s : List UInt8) (w : World), l[i]? = some f → Reads w0 w g s → Cap w g br bl 22 #[lv] →
    Calls Try.prog 35 #[.int .i64 (i : Int), .pointer (some ⟨br, 0, none⟩), .pointer (some ⟨bl, 0, none⟩)] w fun e w' => takePost w0 w g (oneD (decL r) f s) (fun x v w' => NewV r w.heap.size x v w') zeroV e w'

set_option maxRecDepth 100000 in
set_option maxHeartbeats 2000000 in
theorem listV_any (r : Nat) (l : List Fld) (lv : Value) (w0 : World) (g : Nat) (hC : rec1Said r l lv w0 g) (hlen : l.length ≤ 16) (br bl : Nat) (s : List UInt8) (w : World) (hR : Reads w0 w g s) (hCap : Cap w g br bl 22 #[lv]) :
    Calls Try.prog 34 #[.int .i64 (l.length : Int), .func (.func 35) #[] #[.pointer (some ⟨br, 0, none⟩), .pointer (some ⟨bl, 0, none⟩)]] w fun e w' => takePost w0 w g (seqD (oneD (decL r)) l s) (fun v val w' => ValsK w' (fun b => w.heap.size ≤ b) (r + 1) val v) (.slice none 0 0) e w' := by
  obtain ⟨len, hle⟩ : ∃ len, l.length = len := ⟨_, rfl⟩
  have HLE : Hid (l.length = len) := hle
  rw [hle] at hlen ⊢
  clear hle
  obtain ⟨res, hres⟩ : ∃ res, res = seqD (oneD (decL r)) l s := ⟨_, rfl⟩
  rw [← hres]
  have HRES : Hid (res = seqD (oneD (decL r)) l s) := hres
  clear hres
  have HC : Hid (rec1Said r l lv w0 g) := hC
  clear hC
  have hgw : g < w.heap.size := by obtain ⟨_, _, _, _, hb, _⟩ := hR; exact hb.lt
  go_enter Try.func34, Try.ntmps34
  go_wp2
  go_loopw [6, 11] (fun u i wr => ∃ (I : Nat) (ps : List Put) (s' : List UInt8), I ≤ len ∧ i = .int .i64 (I : Int) ∧ OwnV wr w.heap.size r u ps ∧ ps.length = I ∧ seqD (oneD (decL r)) (l.take I) s = some (ps.map Put.x, s') ∧ Reads w0 wr g s' ∧ w.grownBy wr (some g)) (fun _ i _ => len - (intOf i).toNat)
  case atStart => exact ⟨0, [], s, Nat.zero_le _, rfl, OwnV.nil _ _ _, rfl, rfl, hR, grown_refl _ _⟩
  case round =>
    obtain ⟨I, ps, s', hI, rfl, hO, hpl, hps, hR', hG⟩ := hrel
    have HPS : Hid (seqD (oneD (decL r)) (l.take I) s = some (ps.map Put.x, s')) := hps
    clear hps
    have hCap' : Cap wr g br bl 22 #[lv] := hCap.grown hG (fun k hk => .inl (Option.some.inj hk).symm)
    have s1 := hG.size
    by_cases hlt : I < len
    · have i1 : (I : Int) < (len : Int) := by omega
      obtain ⟨f, hf1⟩ : ∃ f, l[I]? = some f := ⟨l[I]'(by have := HLE.out; omega), List.getElem?_eq_getElem (by have := HLE.out; omega)⟩
      have HCI : Hid (∀ W, Reads w0 W g s' → Cap W g br bl 22 #[lv] → Calls Try.prog 35 #[.int .i64 (I : Int), .pointer (some ⟨br, 0, none⟩), .pointer (some ⟨bl, 0, none⟩)] W fun e w' => takePost w0 W g (oneD (decL r) f s') (fun x v w' => NewV r W.heap.size x v w') zeroV e w') := fun W h1 h2 => HC.out I f br bl s' W hf1 h1 h2
      unfold zeroV at HCI
      cases hone : oneD (decL r) f s' with
      | none =>
        rw [hone] at HCI
        have HE : Hid (res = none) := by
          show _ = _
          rw [HRES.out]
          exact seqD_none _ l (I + 1) s (by rw [seqD_snoc _ l I f hf1, HPS.out, Option.bind_some, hone]; rfl)
        clear hone
        go_wp2_with (go_at_call 35; refine (HCI.out _ (by exact hR') (by exact hCap')).mono ?_; rintro e w3 ⟨⟨s3, rfl, hR3⟩, hg3⟩)
        go_ret2
        rw [HE.out]
        have hb3 := (Below.refl _ w3).alloc (Nat.le_refl _) (.cells #[.int .u64 0, .slice none 0 0, .slice none 0 0] 42)
        exact ⟨⟨s3, rfl, hR3.below hb3⟩, grown_trans hG (grown_trans hg3 (grows_below hb3 _))⟩
      | some q =>
        obtain ⟨x, s''⟩ := q
        rw [hone] at HCI
        have HN : Hid (seqD (oneD (decL r)) (l.take (I + 1)) s = some (ps.map Put.x ++ [x], s'')) := by
          show _ = _
          rw [seqD_snoc _ l I f hf1, HPS.out, Option.bind_some, hone]
          rfl
        clear hone
        go_wp2_with (first | (go_at_call 35; refine (HCI.out _ (by exact hR') (by exact hCap')).mono ?_; rintro e w3 ⟨⟨v3, rfl, ⟨ab, nb, cb, al, nl, cl, rfl, hv3⟩, hR3⟩, hg3⟩; have s3 := hg3.size; obtain ⟨W, hW⟩ : ∃ W, W = ((w3.alloc (.cells #[.int .u64 (x.n : Int), .slice ab nb cb, .slice al nl cl] 42)).alloc (.cells #[.int .u64 (x.n : Int), .slice ab nb cb, .slice al nl cl] 42)) := ⟨_, rfl⟩; have hW1 : Below w3.heap.size w3 W := (by rw [hW]; exact ((Below.refl _ _).alloc (Nat.le_refl _) _).alloc (by simp) _); have hW2 := hW1.size; have hW3 : Blk W (w3.heap.size + 1) 42 #[.int .u64 (x.n : Int), .slice ab nb cb, .slice al nl cl] := (by rw [hW]; exact Blk.newAt _ _ _ _ (by simp)); rw [hW] at hW1 hW2 hW3; clear hW W; have hx1 : (x, s'').1 = x := rfl; rw [hx1] at *) | (at_builtin; refine app_put _ rfl (.tmp 22) (.tmp 24) rfl w.heap.size r _ ps rfl (by exact (hO.grown hg3 hgw).after hW1 (Nat.le_refl _)) (w3.heap.size + 1) 1 ⟨x, .slice ab nb cb, .slice al nl cl⟩ rfl (by exact put_cells hW3) (put_one rfl rfl) (by exact hv3.step (Agree.of_keeps (Keeps.of_below hW1 (Nat.le_refl _)) _) (fun b _ hb => ⟨by omega, fun e => by have := (hO.blk_lt _ e).2; omega⟩)) (by omega) (by omega) ?_; intro v4 w4 hO4 hg4 hv4) | fail)
        have hG4 := grown_own (grown_trans hG (grown_trans hg3 (grows_below hW1 _))) hg4 (fun q hq => (hO.blk_lt q hq).1)
        have hR4 := (hR3.below hW1).grown hg4 (fun e => by have := (hO.blk_lt _ e.symm).1; omega) (fun q hq => by have := (hO.blk_lt q hq).1; have := hR.1; omega)
        go_roundw
        case rel => exact ⟨I + 1, _, s'', hlt, by go_num, hO4, by simp [hpl], by rw [List.map_append]; exact HN.out, hR4, hG4⟩
        case measure => simp [intOf]; omega
    · have i1 : ¬ (I : Int) < (len : Int) := by omega
      have HE : Hid (res = some (ps.map Put.x, s')) := by
        show _ = _
        rw [HRES.out, ← HPS.out, List.take_of_length_le (by have := HLE.out; omega)]
      go_wp2
      go_ret2
      rw [HE.out]
      exact ⟨⟨_, rfl, hO.vals (by unfold maxLen; omega), hR'⟩, hG⟩
end Go.Proofs.Ytjepeonekhhgfaa
