/-
  What is proved here: the program's log: the state, and the records, that the head lets count.
  Conditions: the disk and the log lie in memory, the power is on.
-/
import Derived.Test.YtdojdkmchipccaaPWalBank
import Derived.Test.YtdojdkmchipccaaPWalRows
namespace Go.Proofs.Ytdojdkmchipccaa
open Go.RowKit
attribute [local go_sem] Oper.semAt_some

/-- The boxes, and what is laid since the loop began. -/
def Sb (b B q : Nat) : Prop := (q = b ∨ q = b + 1 ∨ q = b + 1 + 1) ∨ B ≤ q
/-- What has been told so far, in three boxes. -/
structure Acc (w W2 W : World) (B b : Nat) (t : T3) : Prop where
  st : ∃ v, Blk W b 22 #[v] ∧ Own W B v t.state
  rc : ∃ v vs, Blk W (b + 1) 39 #[v] ∧ Gat W B v vs t.recs
  wh : Blk W (b + 1 + 1) 4 #[.bool t.whole]
  bel : Below w.heap.size w W
  chg : Chg (Sb b B) W2 W
  none : t.whole = false → t.recs = []
  lo : w.heap.size ≤ b
  hi : b + 1 + 1 < B
  B : B ≤ W.heap.size
theorem own_cells {w : World} {base : Nat} {e : TypeId} {v : Value} {n : Nat} {xs : List Value} (h : w.ownsRow base e 1 v n xs) {k : Nat} (hk : v.ownBlock = some k) : ∃ c f, w.heap[k]? = some (.cells c e f) := by
  rcases h.2 with ⟨h1, _⟩ | ⟨g, cap, cur, h1, _, h3, _⟩
  · rw [h1] at hk; cases hk
  · rw [h1] at hk
    obtain rfl : g = k := Option.some.inj hk
    exact ⟨_, _, h3⟩
theorem own_unlike {w : World} {b1 b2 : Nat} {e1 e2 : TypeId} {v1 v2 : Value} {n1 n2 : Nat} {x1 x2 : List Value} (h1 : w.ownsRow b1 e1 1 v1 n1 x1) (h2 : w.ownsRow b2 e2 1 v2 n2 x2) (he : e1 ≠ e2) {k : Nat} (hk : v1.ownBlock = some k) : ¬ v2.ownBlock = some k := fun hk2 => by
  obtain ⟨c1, f1, g1⟩ := own_cells h1 hk
  obtain ⟨c2, f2, g2⟩ := own_cells h2 hk2
  rw [g1] at g2
  cases g2
  exact he rfl
/-- What is no cells may change. -/
theorem Acc.others {w W2 W W' : World} {B b : Nat} {t : T3} {row : Option Nat} (h : Acc w W2 W B b t) (hg : W.grownBy W' row) (hr : ∀ r, row = some r → B ≤ r ∧ ∃ o : Obj, W.heap[r]? = some o ∧ o.isCells = false) : Acc w W2 W' B b t := by
  obtain ⟨v, h1, h2⟩ := h.st
  obtain ⟨u, us, h3, h4⟩ := h.rc
  have hlo := h.lo
  have hhi := h.hi
  have hc : Chg (fun q => row = some q) W W' := Chg.of_grown hg (fun q hq => hq)
  have hn : ∀ {k : Nat} {c : Array Value} {e : TypeId} {f : Nat × Nat}, W.heap[k]? = some (.cells c e f) → ¬ row = some k := fun hk e => by
    obtain ⟨_, o, ho, hi⟩ := hr _ e
    rw [hk] at ho
    cases ho
    cases hi
  have hO : ∀ {base : Nat} {e : TypeId} {v : Value} {n : Nat} {xs : List Value}, W.ownsRow base e 1 v n xs → ∀ k, v.ownBlock = some k → ¬ row = some k := fun h k hk => by
    obtain ⟨c, f, hcf⟩ := own_cells h hk
    exact hn hcf
  exact ⟨⟨v, h1.chg hc (hn h1), h2.chg hc (hO h2)⟩, ⟨u, us, h3.chg hc (hn h3), ⟨ownsRow_chg h4.own hc (hO h4.own), fun i x r hx hr => (h4.rows i x r hx hr).chg hc (hO (h4.rows i x r hx hr))⟩⟩, h.wh.chg hc (hn h.wh), h.bel.grown hg h.bel.size (fun k hk => by have := (hr k hk).1; omega), h.chg.trans (S' := fun q => row = some q) hc (fun k _ hk => .inr (hr k hk).1), h.none, h.lo, h.hi, Nat.le_trans h.B hg.size⟩
/-- Cells alone have changed. -/
theorem keeps_chg {S : Nat → Prop} {W W' : World} (B : Nat) (hc : Chg S W W') (hS : ∀ k, S k → ∀ o, W.heap[k]? = some o → o.isCells = true) : KeepsFrom B W W' :=
  ⟨hc.size, fun k o _ hk ho => by
    rw [hc.2 k (Array.getElem?_eq_some_iff.1 hk).1 (fun e => by have := hS k e o hk; rw [this] at ho; cases ho)]
    exact hk⟩
theorem own_isCells {w : World} {base : Nat} {e : TypeId} {v : Value} {n : Nat} {xs : List Value} (h : w.ownsRow base e 1 v n xs) (k : Nat) (hk : v.ownBlock = some k) (o : Obj) (ho : w.heap[k]? = some o) : o.isCells = true := by
  obtain ⟨c, f, hcf⟩ := own_cells h hk
  rw [hcf] at ho
  cases ho
  rfl
theorem blk_isCells {w : World} {g : Nat} {t : TypeId} {arr : Array Value} (h : Blk w g t arr) (o : Obj) (ho : w.heap[g]? = some o) : o.isCells = true := by
  rw [show w.heap[g]? = _ from h] at ho
  cases ho
  rfl
/-- The state grows. -/
theorem acc_state {w W2 W w2 : World} {B b : Nat} {t : T3} {v v' : Value} {xb : List UInt8} (hA : Acc w W2 W B b t) (hwh : t.whole = false) (hv : Blk W b 22 #[v]) (hO : Own W B v t.state) (ho2 : Own w2 B v' (t.state ++ xb)) (hg : W.grownBy w2 v.ownBlock) :
    Blk w2 b 22 #[v] ∧ Acc w W2 (w2.setCell ⟨b, 0, none⟩ v') B b ⟨t.state ++ xb, t.recs, false⟩ ∧ Chg (fun q => q = b ∨ v.ownBlock = some q) W (w2.setCell ⟨b, 0, none⟩ v') := by
  have hlo := hA.lo
  have hhi := hA.hi
  obtain ⟨u, us, h3, h4⟩ := hA.rc
  have hge : ∀ k, v.ownBlock = some k → B ≤ k := fun k hk => (hO.blocks k hk).1
  have hc : Chg (fun q => q = b ∨ v.ownBlock = some q) W (w2.setCell ⟨b, 0, none⟩ v') := (Chg.of_grown (S := fun q => q = b ∨ v.ownBlock = some q) hg (fun k hk => .inr hk)).setCell b 0 v' (fun _ => .inl rfl)
  have hb2 : Blk w2 b 22 #[v] := hv.grown hg (fun e => by have := hge b e.symm; omega)
  have hcb : Chg (fun q => q = b) w2 (w2.setCell ⟨b, 0, none⟩ v') := (Chg.refl _ w2).setCell b 0 v' (fun _ => rfl)
  have hr0 : t.recs = [] := hA.none hwh
  refine ⟨hb2, ⟨⟨v', hb2.set 0 v', ho2.chg hcb (fun k hk e => by have := (ho2.blocks k hk).1; omega)⟩, ⟨u, us, h3.chg hc (fun e => by rcases e with e | e; omega; have := hge _ e; omega), ?_⟩, ?_, ?_, ?_, fun _ => hr0, hlo, hhi, Nat.le_trans hA.B hc.size⟩, hc⟩
  · refine ⟨ownsRow_chg h4.own hc (fun k hk e => ?_), fun i x r hx hr => ?_⟩
    · rcases e with e | e
      · have := (World.ownsRow.lt h4.own k hk).1; omega
      · exact own_unlike hO h4.own (by decide) e hk
    · dsimp only at hr
      rw [hr0] at hr
      simp at hr
  · have := hA.wh
    rw [hwh] at this
    exact this.chg hc (fun e => by rcases e with e | e; omega; have := hge _ e; omega)
  · exact ((hA.bel.grown hg hA.bel.size (fun k hk => by have := hge k hk; omega))).setCell (p := ⟨b, 0, none⟩) hlo v'
  · exact hA.chg.trans hc (fun k _ e => by rcases e with e | e; exact .inl (.inl e); exact .inr (hge k e))
/-- It is whole. -/
theorem acc_whole {w W2 W : World} {B b : Nat} {st : List UInt8} (hA : Acc w W2 W B b ⟨st, [], false⟩) : Acc w W2 (W.setCell ⟨b + 1 + 1, 0, none⟩ (.bool true)) B b ⟨st, [], true⟩ ∧ Chg (fun q => q = b + 1 + 1) W (W.setCell ⟨b + 1 + 1, 0, none⟩ (.bool true)) := by
  have hlo := hA.lo
  have hhi := hA.hi
  obtain ⟨v, h1, h2⟩ := hA.st
  obtain ⟨u, us, h3, h4⟩ := hA.rc
  have hc : Chg (fun q => q = b + 1 + 1) W (W.setCell ⟨b + 1 + 1, 0, none⟩ (.bool true)) := (Chg.refl _ W).setCell (b + 1 + 1) 0 _ (fun _ => rfl)
  refine ⟨⟨⟨v, h1.chg hc (by omega), h2.chg hc (fun k hk e => by have := (h2.blocks k hk).1; omega)⟩, ⟨u, us, h3.chg hc (by omega), h4.chg hc (fun q hq => by omega)⟩, hA.wh.set 0 _, hA.bel.setCell (p := ⟨b + 1 + 1, 0, none⟩) (by show _ ≤ b + 1 + 1; omega) _, hA.chg.trans hc (fun k _ e => .inl (.inr (.inr e))), fun h => (by cases h), hlo, hhi, Nat.le_trans hA.B hc.size⟩, hc⟩
/-- One more record. -/
theorem acc_row {w W2 W V w2 : World} {B b : Nat} {t : T3} {v v' : Value} {vs vs' : List Value} {xb : List UInt8} (hA : Acc w W2 W B b t) (hwh : t.whole = true) (hbV : Below W.heap.size W V) (hv : Blk W (b + 1) 39 #[v]) (hO : Gat W B v vs t.recs) (ho2 : Gat w2 B v' vs' (t.recs ++ [xb])) (hg : V.grownBy w2 v.ownBlock) :
    Blk w2 (b + 1) 39 #[v] ∧ Acc w W2 (w2.setCell ⟨b + 1, 0, none⟩ v') B b ⟨t.state, t.recs ++ [xb], true⟩ ∧ Chg (fun q => q = b + 1 ∨ v.ownBlock = some q) W (w2.setCell ⟨b + 1, 0, none⟩ v') := by
  have hlo := hA.lo
  have hhi := hA.hi
  obtain ⟨s, h1, h2⟩ := hA.st
  have hge : ∀ k, v.ownBlock = some k → B ≤ k := fun k hk => (World.ownsRow.lt hO.own k hk).1
  have hcV : Chg (fun q => v.ownBlock = some q) W w2 := (Chg.of_below (S := fun q => v.ownBlock = some q) hbV (Nat.le_refl _)).trans (Chg.of_grown (S := fun q => v.ownBlock = some q) hg (fun k hk => hk)) (fun _ _ h => h)
  have hc : Chg (fun q => q = b + 1 ∨ v.ownBlock = some q) W (w2.setCell ⟨b + 1, 0, none⟩ v') := (hcV.weaken (fun _ h => .inr h)).setCell (b + 1) 0 v' (fun _ => .inl rfl)
  have hb2 : Blk w2 (b + 1) 39 #[v] := hv.chg hcV (fun e => by have := hge _ e; omega)
  have hcb : Chg (fun q => q = b + 1) w2 (w2.setCell ⟨b + 1, 0, none⟩ v') := (Chg.refl _ w2).setCell (b + 1) 0 v' (fun _ => rfl)
  refine ⟨hb2, ⟨⟨s, h1.chg hc (fun e => by rcases e with e | e; omega; have := hge _ e; omega), h2.chg hc (fun k hk e => ?_)⟩, ⟨v', vs', hb2.set 0 v', ho2.chg hcb (fun q hq => by omega)⟩, ?_, ?_, ?_, fun h => (by cases h), hlo, hhi, Nat.le_trans hA.B hc.size⟩, hc⟩
  · rcases e with e | e
    · have := (h2.blocks k hk).1; omega
    · exact own_unlike hO.own h2 (by decide) e hk
  · have := hA.wh
    rw [hwh] at this
    exact this.chg hc (fun e => by rcases e with e | e; omega; have := hge _ e; omega)
  · exact ((hA.bel.trans (hbV.mono hA.bel.size)).grown hg (Nat.le_trans hA.bel.size hbV.size) (fun k hk => by have := hge k hk; omega)).setCell (p := ⟨b + 1, 0, none⟩) (by show _ ≤ b + 1; omega) v'
  · exact hA.chg.trans hc (fun k _ e => by rcases e with e | e; exact .inl (.inr (.inl e)); exact .inr (hge k e))
theorem gat_mono7 {w : World} {base base' n : Nat} {v : Value} {xs : List Value} (h : w.ownsRow base 22 1 v n xs) (hb : base' ≤ base) : w.ownsRow base' 22 1 v n xs := by
  refine ⟨h.1, ?_⟩
  rcases h.2 with h2 | ⟨g, cap, cur, h1, h2, h3⟩
  · exact .inl h2
  · exact .inr ⟨g, cap, cur, h1, Nat.le_trans hb h2, h3⟩
theorem readp_results (tmps : Array Value) (W : World) (p q : Nat) (v u : Value) (hp : tmps.getD 2 undef = .pointer (some ⟨p, 0, none⟩)) (hq : tmps.getD 3 undef = .pointer (some ⟨q, 0, none⟩)) (h0 : W.cell? ⟨p, 0, none⟩ = some v) (h1 : W.cell? ⟨q, 0, none⟩ = some u) :
    (results Try.f25 tmps).run Try.prog W = .ok (.tuple #[v, u]) W := by
  have hp' : tmps[2]?.getD undef = .pointer (some ⟨p, 0, none⟩) := by simpa using hp
  have hq' : tmps[3]?.getD undef = .pointer (some ⟨q, 0, none⟩) := by simpa using hq
  simp [results, Try.results25, go_sem, hp', hq', h0, h1]
set_option maxRecDepth 100000 in
set_option maxHeartbeats 4000000 in
theorem readP_any {w : World} {G n gen len : Nat} {bg bk : Bool} {tv : Value} {L : PLay} {C : Nat → Prop} {s : DS} (h : LogB w G L.g (sizeS s) n gen len bg bk tv) (hD : OD w L C s) (hdn : s.down = false) (hl : len ≤ sizeS s) :
    Calls Try.prog 25 #[.pointer (some ⟨G, 0, none⟩)] w fun e w' => ∃ sv rv vs, e = .returned (.tuple #[sv, rv]) ∧ Own w' w.heap.size sv (toldB ((bankS s (gen % 2)).take len)).1 ∧ Gat w' w.heap.size rv vs (toldB ((bankS s (gen % 2)).take len)).2 ∧ Below w.heap.size w w' := by
  have hsz := size_lt hD.d.ok hD.d.lay.max
  have hB0 := (((Below.refl w.heap.size w).alloc (Nat.le_refl _) (.cells #[.slice none 0 0] 22)).alloc (by simp) (.cells #[.slice none 0 0] 39)).alloc (by simp; omega) (.cells #[.bool false] 4)
  have k2 : Blk (((w.alloc (.cells #[.slice none 0 0] 22)).alloc (.cells #[.slice none 0 0] 39)).alloc (.cells #[.bool false] 4)) w.heap.size 22 #[.slice none 0 0] := ((Blk.new w _ _).alloc _).alloc _
  have k3 : Blk (((w.alloc (.cells #[.slice none 0 0] 22)).alloc (.cells #[.slice none 0 0] 39)).alloc (.cells #[.bool false] 4)) (w.heap.size + 1) 39 #[.slice none 0 0] := (Blk.newAt _ _ _ _ (by simp)).alloc _
  have k4 : Blk (((w.alloc (.cells #[.slice none 0 0] 22)).alloc (.cells #[.slice none 0 0] 39)).alloc (.cells #[.bool false] 4)) (w.heap.size + 1 + 1) 4 #[.bool false] := Blk.newAt _ _ _ _ (by simp)
  have HRB := readBank_any (Blk.below h hB0 (Blk.lt h)) (hD.after hB0) hdn hl
  have hbl : ((bankS s (gen % 2)).take len).length ≤ 262016 := by rw [List.length_take]; omega
  generalize (bankS s (gen % 2)).take len = bs at *
  have hfn : Fence.wide.fn 40 := trivial
  have hfn2 : Fence.wide.fn 39 := trivial
  clear h hD hdn hl
  refine (callsIn_wide (n := 6)).1 ?_
  refine callsIn_of_wp_marks Try.func25 rfl trivial ?_ rfl
  simp only [Try.ntmps25, List.size_toArray, List.length_cons, List.length_nil, Nat.reduceAdd, Nat.reduceSub, Array.replicate_succ, Array.replicate_zero, List.push_toArray, List.append_toArray, List.nil_append, List.cons_append]
  gi_wp2_with fail
  refine wpIn_wide.2 (wp_scope_straight ((wpIn_wide (n := 6)).1 ?_))
  gi_wp2_with fail
  refine wpIn_label ?_
  gi_wp2_with fail
  have hW1s : (((w.alloc (.cells #[.slice none 0 0] 22)).alloc (.cells #[.slice none 0 0] 39)).alloc (.cells #[.bool false] 4)).heap.size = w.heap.size + 3 := by simp
  generalize ((w.alloc (.cells #[.slice none 0 0] 22)).alloc (.cells #[.slice none 0 0] 39)).alloc (.cells #[.bool false] 4) = W1 at *
  refine (callsIn_wide.2 HRB).mono ?_
  clear HRB
  rintro e W2 ⟨v2, rfl, hs2, hq2, hb2⟩
  have hB2 : Below w.heap.size w W2 := hB0.trans (hb2.mono hB0.size)
  have m2 := k2.below hb2 k2.lt
  have m3 := k3.below hb2 k3.lt
  have m4 := k4.below hb2 k4.lt
  obtain ⟨ao, c, rfl⟩ := Seg.shapeD hs2
  clear k2 k3 k4 hB0 hb2
  gi_wp2_with fail
  refine (callsIn_wide.2 (pieces_any ao bs.length c W2)).mono ?_
  rintro e W3 ⟨rfl, rfl⟩
  gi_wp2_with fail
  have hlt2 := m2.lt
  have hlt3 := m3.lt
  have hlt4 := m4.lt
  have hW3s : (W2.alloc (.cells #[.slice ao bs.length c] 22)).heap.size = W2.heap.size + 1 := by simp
  have hsA : SegA W2 (Sb w.heap.size (W2.heap.size + 1)) (.slice ao bs.length c) bs := ⟨hs2, fun h0 q hq e => by
    have h1 := hq2 q hq
    have h2 : q < W2.heap.size := by
      rcases hs2 with ⟨e, _⟩ | ⟨b, off, c', e, _, _, hb⟩
      · rw [e] at h0; cases h0
      · rw [e] at hq
        obtain rfl : b = q := Option.some.inj hq
        exact hb
    unfold Sb at e
    omega⟩
  have hc3 : Chg (Sb w.heap.size (W2.heap.size + 1)) W2 (W2.alloc (.cells #[.slice ao bs.length c] 22)) := (Chg.refl _ _).alloc _
  have hcell : (W2.alloc (.cells #[.slice ao bs.length c] 22)).cell? ⟨W2.heap.size, 0, none⟩ = some (.slice ao bs.length c) := (Blk.new W2 _ _).cell rfl
  have hB3 : Below w.heap.size w (W2.alloc (.cells #[.slice ao bs.length c] 22)) := hB2.alloc hB2.size _
  refine wpIn_rangeFunc_ownG rfl (by decide) (gf := 56) (lb := #[.pointer (some ⟨W2.heap.size, 0, none⟩)]) rfl trivial (enters_of Try.func56 (by kernel_rfl) rfl)
    (pieces_stops 5 (by decide) W2.heap.size W2 (Sb w.heap.size (W2.heap.size + 1)) ao c bs (by omega) hsA _ hc3 (by simp) hcell) (fun h k => h.trans k (fun _ _ h => h)) (fun W l o o' hl _ _ _ => Chg.of_grown (grownBy_putObj' W l o') (fun k e => by cases e; exact .inr (by rw [← hW3s]; exact hl))) (Below.refl _ _) (fun _ => rfl)
    (fun pre W => ∃ t, foldW zeroT (imgs pre) = some t ∧ Acc w W2 W (W2.heap.size + 1) w.heap.size t)
    (fun c pre W => c = .exit 0 ∧ ∃ p y t, imgs pre = p ++ [y] ∧ foldW zeroT p = some t ∧ stepW t y = none ∧ Acc w W2 W (W2.heap.size + 1) w.heap.size t)
    (fun pre W W' row ⟨t, h1, h2⟩ hg hr => ⟨t, h1, h2.others hg (fun r e => ⟨by have := (hr r e).1; rw [hW3s] at this; exact this, (hr r e).2⟩)⟩)
    (fun c pre W W' row ⟨h0, p, y, t, h1, h2, h3, h4⟩ hg hr => ⟨h0, p, y, t, h1, h2, h3, h4.others hg (fun r e => ⟨by have := (hr r e).1; rw [hW3s] at this; exact this, (hr r e).2⟩)⟩)
    ⟨zeroT, rfl, ⟨_, m2.alloc _, own_none _ _⟩, ⟨_, [], m3.alloc _, Gat.nil _ _⟩, m4.alloc _, hB3, hc3, fun _ => rfl, Nat.le_refl _, by omega, by rw [hW3s]; exact Nat.le_refl _⟩
    (fun x => { tmps := #[.pointer (some ⟨G, 0, none⟩), undef, .pointer (some ⟨w.heap.size, 0, none⟩), .pointer (some ⟨w.heap.size + 1, 0, none⟩), .pointer (some ⟨w.heap.size + 1 + 1, 0, none⟩), .int .u8 (n8 x.1.2.1), x.1.1, .pointer (some ⟨G, 0, none⟩), .slice ao bs.length c, .func (.func 56) #[] #[.pointer (some ⟨W2.heap.size, 0, none⟩)], .int .u8 (n8 x.1.2.1), x.1.1, undef, undef, undef, undef, undef, undef, undef, undef, undef, undef, undef, undef, undef, undef, undef, undef, undef, undef, undef, undef, undef, undef, undef, undef, undef, undef, undef, undef, undef, undef, undef, undef, undef, undef, undef], defers := [] }) ?assign ?body ?done ?stop
  case assign =>
    intro l x W K hK
    gi_wp2
    exact hK
  case body =>
    rintro l pre x W ⟨t, ht, hA⟩ hlt
    have hF : ∀ f, (Fence.wide.inRound l).fn f := fun _ => trivial
    have hsn := imgs_snoc pre x
    obtain ⟨⟨xv, kb, xb⟩, hxs, hxl⟩ := x
    dsimp only at hxs hxl hsn ⊢
    obtain ⟨ax, cx, rfl⟩ := Seg.shapeD hxs.1
    obtain ⟨sv, hb2, hO⟩ := hA.st
    obtain ⟨rv, vs, hb3, hGt⟩ := hA.rc
    have hb4 := hA.wh
    have hxW : Seg W (.slice ax xb.length cx) xb := hxs.1.chg hA.chg hxs.2
    have hfold := foldW_snoc (imgs pre) zeroT (kb, xb)
    rw [ht] at hfold
    have hf2 : foldW zeroT (imgs (pre ++ [(⟨(.slice ax xb.length cx, kb, xb), hxs, hxl⟩ : ItemT W2 (Sb w.heap.size (W2.heap.size + 1)))])) = stepW t (kb, xb) := by rw [hsn]; exact hfold
    clear hfold
    have hfl := foldW_len (imgs pre) zeroT t ht (fun x hx => by obtain ⟨y, _, rfl⟩ := List.mem_map.1 hx; exact y.2.2)
    have hil : (imgs pre).length = pre.length := by unfold imgs; rw [List.length_map]
    rw [hil] at hfl
    have hstl : t.state.length ≤ 500000000 := by have := hfl.1; have e : zeroT.state.length = 0 := rfl; omega
    have hrl : t.recs.length ≤ 1000000 := by have := hfl.2; have e : zeroT.recs.length = 0 := rfl; omega
    clear hfl hil
    have hn1 : (kb = 1) ↔ kb.toNat = 1 := u8_eq kb 1 (by decide)
    have hn2 : (kb = 2) ↔ kb.toNat = 2 := u8_eq kb 2 (by decide)
    have hn3 : (kb = 3) ↔ kb.toNat = 3 := u8_eq kb 3 (by decide)
    have k4 := hb4.cell (j := 0) rfl
    have k4f := hb4.frozen 0
    have k2 := hb2.cell (j := 0) rfl
    have k2f := hb2.frozen 0
    cases hwh : t.whole with
    | false =>
      rw [hwh] at k4
      by_cases h1 : kb = 1
      · have HF : Hid (foldW zeroT (imgs (pre ++ [(⟨(.slice ax xb.length cx, kb, xb), hxs, hxl⟩ : ItemT W2 (Sb w.heap.size (W2.heap.size + 1)))])) = some ⟨t.state ++ xb, t.recs, false⟩) := by show _ = _; rw [hf2]; unfold stepW; rw [if_pos ⟨h1, hwh⟩, hwh]
        have e1 : (n8 kb == 1) = true := by unfold n8; rw [hn1.1 h1]; rfl
        clear hf2
        gi_wp2_with (gi_at_builtin; refine app_own_in7 _ rfl (.tmp 19) (.tmp 20) rfl (W2.heap.size + 1) _ t.state rfl hO _ xb rfl hxW (by omega) hA.B ?_; intro v2 w2 ho2 hg2 _; obtain ⟨hbx, hAx, hcx⟩ := acc_state (v' := v2) hA hwh hb2 hO ho2 hg2; have kx := hbx.cell (j := 0) rfl; have kxf := hbx.frozen 0; obtain ⟨a2, c2, rfl⟩ := Seg.shapeD ho2.seg)
        rw [List.length_append] at hAx hcx
        exact ⟨keeps_chg (S := fun q => q = w.heap.size ∨ sv.ownBlock = some q) _ hcx (fun k hk o ho => by rcases hk with rfl | hk; exact blk_isCells hb2 o ho; exact own_isCells hO k hk o ho), Chg.weaken (S := fun q => q = w.heap.size ∨ sv.ownBlock = some q) hcx (fun q hq => by rcases hq with rfl | hq; exact .inl (.inl rfl); exact .inr ((hO.blocks q hq).1)), ⟨_, HF.out, hAx⟩⟩
      by_cases h2 : kb = 2
      · have hr0 := hA.none hwh
        have HF : Hid (foldW zeroT (imgs (pre ++ [(⟨(.slice ax xb.length cx, kb, xb), hxs, hxl⟩ : ItemT W2 (Sb w.heap.size (W2.heap.size + 1)))])) = some ⟨t.state ++ xb, [], true⟩) := by show _ = _; rw [hf2]; unfold stepW; rw [if_neg (fun h => h1 h.1), if_pos ⟨h2, hwh⟩, hr0]
        have e1 : (n8 kb == 1) = false := by unfold n8; rw [hn2.1 h2]; rfl
        have e2 : (n8 kb == 2) = true := by unfold n8; rw [hn2.1 h2]; rfl
        clear hf2 h1 h2 hn1 hn2 hn3
        gi_wp2_with (gi_at_builtin; refine app_own_in7 _ rfl (.tmp 29) (.tmp 30) rfl (W2.heap.size + 1) _ t.state rfl hO _ xb rfl hxW (by omega) hA.B ?_; intro v2 w2 ho2 hg2 _; obtain ⟨hbx, hAx, hcx⟩ := acc_state (v' := v2) hA hwh hb2 hO ho2 hg2; rw [hr0] at hAx; have kx := hbx.cell (j := 0) rfl; have kxf := hbx.frozen 0; have ky := hAx.wh.cell (j := 0) rfl; have kyf := hAx.wh.frozen 0; obtain ⟨hAy, hcy⟩ := acc_whole hAx; obtain ⟨a2, c2, rfl⟩ := Seg.shapeD ho2.seg; rw [List.length_append] at hAx hcx ky kyf hAy hcy)
        exact ⟨KeepsFrom.trans (keeps_chg (S := fun q => q = w.heap.size ∨ sv.ownBlock = some q) _ hcx (fun k hk o ho => by rcases hk with rfl | hk; exact blk_isCells hb2 o ho; exact own_isCells hO k hk o ho)) (keeps_chg (S := fun q => q = w.heap.size + 1 + 1) _ hcy (fun k hk o ho => by subst hk; exact blk_isCells hAx.wh o ho)), (Chg.weaken (S := fun q => q = w.heap.size ∨ sv.ownBlock = some q) hcx (fun q hq => by rcases hq with rfl | hq; exact .inl (.inl rfl); exact .inr ((hO.blocks q hq).1))).trans (Chg.weaken (S := fun q => q = w.heap.size + 1 + 1) hcy (fun q hq => .inl (.inr (.inr hq)))) (fun _ _ h => h), ⟨_, HF.out, hAy⟩⟩
      by_cases h3 : kb = 3
      · have HF : Hid (stepW t (kb, xb) = none) := by show _ = _; unfold stepW; rw [if_neg (fun h => h1 h.1), if_neg (fun h => h2 h.1), if_neg (fun h => by rw [hwh] at h; cases h.2)]
        have e1 : (n8 kb == 1) = false := by unfold n8; rw [hn3.1 h3]; rfl
        have e2 : (n8 kb == 2) = false := by unfold n8; rw [hn3.1 h3]; rfl
        have e3 : (n8 kb == 3) = true := by unfold n8; rw [hn3.1 h3]; rfl
        clear hf2
        gi_wp2
        exact ⟨KeepsFrom.refl _ _, rfl, imgs pre, (kb, xb), t, hsn, ht, HF.out, hA⟩
      · have HF : Hid (stepW t (kb, xb) = none) := by show _ = _; unfold stepW; rw [if_neg (fun h => h1 h.1), if_neg (fun h => h2 h.1), if_neg (fun h => h3 h.1)]
        have e1 : (n8 kb == 1) = false := by unfold n8; rw [beq_eq_false_iff_ne]; intro e; exact h1 (hn1.2 (by omega))
        have e2 : (n8 kb == 2) = false := by unfold n8; rw [beq_eq_false_iff_ne]; intro e; exact h2 (hn2.2 (by omega))
        have e3 : (n8 kb == 3) = false := by unfold n8; rw [beq_eq_false_iff_ne]; intro e; exact h3 (hn3.2 (by omega))
        clear hf2
        gi_wp2
        exact ⟨KeepsFrom.refl _ _, rfl, imgs pre, (kb, xb), t, hsn, ht, HF.out, hA⟩
    | true =>
      rw [hwh] at k4
      by_cases h3 : kb = 3
      · have HF : Hid (foldW zeroT (imgs (pre ++ [(⟨(.slice ax xb.length cx, kb, xb), hxs, hxl⟩ : ItemT W2 (Sb w.heap.size (W2.heap.size + 1)))])) = some ⟨t.state, t.recs ++ [xb], true⟩) := by show _ = _; rw [hf2]; unfold stepW; rw [if_neg (fun h => by rw [hwh] at h; cases h.2), if_neg (fun h => by rw [hwh] at h; cases h.2), if_pos ⟨h3, hwh⟩, hwh]
        have e1 : (n8 kb == 1) = false := by unfold n8; rw [hn3.1 h3]; rfl
        have e2 : (n8 kb == 2) = false := by unfold n8; rw [hn3.1 h3]; rfl
        have e3 : (n8 kb == 3) = true := by unfold n8; rw [hn3.1 h3]; rfl
        clear hf2
        obtain ⟨ar, cr, rfl⟩ := hGt.sl
        have HRL : Hid (t.recs.length ≤ 1000000) := hrl
        clear hrl
        obtain ⟨nr, hnr⟩ : ∃ nr, nr = t.recs.length := ⟨_, rfl⟩
        rw [← hnr] at hGt hb3
        clear hnr h3 hn1 hn2 hn3
        gi_wp2_with fail
        refine wpIn_region_any (by kernel_rfl) ?_
        have hbD : Below W.heap.size W W.drew := (Below.refl _ W).drew
        have hxD : Seg W.drew (.slice ax xb.length cx) xb := hxW
        show wpAnyIn _ _ _ _ _ _ _ _ _ W.drew
        have c0 : W.drew.cell? ⟨w.heap.size + 1, 0, none⟩ = some (.slice ar nr cr) := hb3.drew.cell rfl
        refine anyin_all2 0 1 (by kernel_rfl) ?_ ?_
        · refine opin_value hF 0 38 _ (.slice ar nr cr) _ rfl rfl rfl (by intro c hc; cases hc) (exec_loadc 39 _ rfl _ _ rfl (load_one 39 (fun _ => by kernel_rfl) _ _ _ _ (c0))) ?_
          simp only [Act.put, List.setIfInBounds_toArray, List.set_cons_succ, List.set_cons_zero]
          refine anyin_all1 1 (by kernel_rfl) (opin_value hF 1 39 _ (.slice ax xb.length cx) _ rfl rfl rfl (by intro c hc; cases hc) rfl ?_)
          simp only [Act.put, List.setIfInBounds_toArray, List.set_cons_succ, List.set_cons_zero]
          refine anyin_all1 2 (by kernel_rfl) (opin_call hF (fun _ => by decide) 2 40 _ 41 #[.slice ax xb.length cx] rfl rfl rfl (by intro c hc; cases hc) (exec_one 41 _ _ rfl _ rfl Try.call41) (CallsIn.inRound l (callsIn_wide.2 ((bclone_any _ xb _ (by omega) (by exact hxD)).mono ?_))))
          rintro e V2 ⟨v40, rfl, ho40, hb40⟩
          obtain ⟨a40, c40, rfl⟩ := Seg.shapeD ho40.seg
          refine ⟨_, rfl, ?_⟩
          simp only [Act.put, List.setIfInBounds_toArray, List.set_cons_succ, List.set_cons_zero]
          refine anyin_all1 3 (by kernel_rfl) (opin_value hF 3 41 _ (.slice (some ⟨V2.heap.size, 0, none⟩) 1 1) _ rfl rfl rfl (by intro c hc; cases hc) (exec_rows _ rfl a40 xb.length c40 rfl) ?_)
          simp only [Act.put, List.setIfInBounds_toArray, List.set_cons_succ, List.set_cons_zero]
          have hbV : Below W.heap.size W (V2.alloc (.cells #[.slice a40 xb.length c40] 22)) := (hbD.trans (hb40.mono hbD.size)).alloc (Nat.le_trans hbD.size hb40.size) _
          have hgV : Gat (V2.alloc (.cells #[.slice a40 xb.length c40] 22)) (W2.heap.size + 1) (.slice ar nr cr) vs t.recs := hGt.below hbV (Nat.le_refl _)
          have hcV : (V2.alloc (.cells #[.slice a40 xb.length c40] 22)).cell? ⟨V2.heap.size, 0, none⟩ = some (.slice a40 xb.length c40) := (Blk.new V2 _ _).cell rfl
          have hoV : Own (V2.alloc (.cells #[.slice a40 xb.length c40] 22)) (W2.heap.size + 1) (.slice a40 xb.length c40) xb := (ho40.alloc _).mono (Nat.le_trans hA.B hbD.size)
          obtain ⟨v42, w42, hr42, hg42, hgr42, -⟩ := app_rows _ (W2.heap.size + 1) _ vs t.recs hgV V2.heap.size 1 _ xb hcV hoV HRL.out (Nat.le_trans hA.B hbV.size)
          obtain ⟨hbx, hAx, hcx⟩ := acc_row (v' := v42) hA hwh hbV hb3 hGt hg42 hgr42
          obtain ⟨a42, c42, rfl⟩ := hg42.sl
          refine anyin_all1 4 (by kernel_rfl) (opin_value hF 4 42 _ _ w42 rfl rfl rfl (by intro c hc; cases hc) (exec_app _ _ 39 39 rfl (.slice ar nr cr) (.slice (some ⟨V2.heap.size, 0, none⟩) 1 1) _ rfl rfl hr42) ?_)
          simp only [Act.put, List.setIfInBounds_toArray, List.set_cons_succ, List.set_cons_zero]
          refine anyin_all1 5 (by kernel_rfl) (opin_skip hF 5 _ _ rfl rfl rfl (by intro c hc; cases hc) (exec_storer _ _ rfl (w.heap.size + 1) 0 a42 (t.recs ++ [xb]).length c42 _ rfl rfl (hbx.cell rfl) (hbx.frozen 0)) ?_)
          refine wpAnyIn_done (by kernel_rfl) ?_ _
          gi_wp2
          exact ⟨keeps_chg _ hcx (fun k hk o ho => by rcases hk with rfl | hk; exact blk_isCells hb3 o ho; exact own_isCells hGt.own k hk o ho), hcx.weaken (fun q hq => by rcases hq with rfl | hq; exact .inl (.inr (.inl rfl)); exact .inr ((World.ownsRow.lt hGt.own q hq).1)), ⟨_, HF.out, hAx⟩⟩
        · refine opin_value hF 1 39 _ (.slice ax xb.length cx) _ rfl rfl rfl (by intro c hc; cases hc) rfl ?_
          simp only [Act.put, List.setIfInBounds_toArray, List.set_cons_succ, List.set_cons_zero]
          refine anyin_all2 0 2 (by kernel_rfl) ?_ ?_
          · refine opin_value hF 0 38 _ (.slice ar nr cr) _ rfl rfl rfl (by intro c hc; cases hc) (exec_loadc 39 _ rfl _ _ rfl (load_one 39 (fun _ => by kernel_rfl) _ _ _ _ (c0))) ?_
            simp only [Act.put, List.setIfInBounds_toArray, List.set_cons_succ, List.set_cons_zero]
            refine anyin_all1 2 (by kernel_rfl) (opin_call hF (fun _ => by decide) 2 40 _ 41 #[.slice ax xb.length cx] rfl rfl rfl (by intro c hc; cases hc) (exec_one 41 _ _ rfl _ rfl Try.call41) (CallsIn.inRound l (callsIn_wide.2 ((bclone_any _ xb _ (by omega) (by exact hxD)).mono ?_))))
            rintro e V2 ⟨v40, rfl, ho40, hb40⟩
            obtain ⟨a40, c40, rfl⟩ := Seg.shapeD ho40.seg
            refine ⟨_, rfl, ?_⟩
            simp only [Act.put, List.setIfInBounds_toArray, List.set_cons_succ, List.set_cons_zero]
            refine anyin_all1 3 (by kernel_rfl) (opin_value hF 3 41 _ (.slice (some ⟨V2.heap.size, 0, none⟩) 1 1) _ rfl rfl rfl (by intro c hc; cases hc) (exec_rows _ rfl a40 xb.length c40 rfl) ?_)
            simp only [Act.put, List.setIfInBounds_toArray, List.set_cons_succ, List.set_cons_zero]
            have hbV : Below W.heap.size W (V2.alloc (.cells #[.slice a40 xb.length c40] 22)) := (hbD.trans (hb40.mono hbD.size)).alloc (Nat.le_trans hbD.size hb40.size) _
            have hgV : Gat (V2.alloc (.cells #[.slice a40 xb.length c40] 22)) (W2.heap.size + 1) (.slice ar nr cr) vs t.recs := hGt.below hbV (Nat.le_refl _)
            have hcV : (V2.alloc (.cells #[.slice a40 xb.length c40] 22)).cell? ⟨V2.heap.size, 0, none⟩ = some (.slice a40 xb.length c40) := (Blk.new V2 _ _).cell rfl
            have hoV : Own (V2.alloc (.cells #[.slice a40 xb.length c40] 22)) (W2.heap.size + 1) (.slice a40 xb.length c40) xb := (ho40.alloc _).mono (Nat.le_trans hA.B hbD.size)
            obtain ⟨v42, w42, hr42, hg42, hgr42, -⟩ := app_rows _ (W2.heap.size + 1) _ vs t.recs hgV V2.heap.size 1 _ xb hcV hoV HRL.out (Nat.le_trans hA.B hbV.size)
            obtain ⟨hbx, hAx, hcx⟩ := acc_row (v' := v42) hA hwh hbV hb3 hGt hg42 hgr42
            obtain ⟨a42, c42, rfl⟩ := hg42.sl
            refine anyin_all1 4 (by kernel_rfl) (opin_value hF 4 42 _ _ w42 rfl rfl rfl (by intro c hc; cases hc) (exec_app _ _ 39 39 rfl (.slice ar nr cr) (.slice (some ⟨V2.heap.size, 0, none⟩) 1 1) _ rfl rfl hr42) ?_)
            simp only [Act.put, List.setIfInBounds_toArray, List.set_cons_succ, List.set_cons_zero]
            refine anyin_all1 5 (by kernel_rfl) (opin_skip hF 5 _ _ rfl rfl rfl (by intro c hc; cases hc) (exec_storer _ _ rfl (w.heap.size + 1) 0 a42 (t.recs ++ [xb]).length c42 _ rfl rfl (hbx.cell rfl) (hbx.frozen 0)) ?_)
            refine wpAnyIn_done (by kernel_rfl) ?_ _
            gi_wp2
            exact ⟨keeps_chg _ hcx (fun k hk o ho => by rcases hk with rfl | hk; exact blk_isCells hb3 o ho; exact own_isCells hGt.own k hk o ho), hcx.weaken (fun q hq => by rcases hq with rfl | hq; exact .inl (.inr (.inl rfl)); exact .inr ((World.ownsRow.lt hGt.own q hq).1)), ⟨_, HF.out, hAx⟩⟩
          · refine opin_call hF (fun _ => by decide) 2 40 _ 41 #[.slice ax xb.length cx] rfl rfl rfl (by intro c hc; cases hc) (exec_one 41 _ _ rfl _ rfl Try.call41) (CallsIn.inRound l (callsIn_wide.2 ((bclone_any _ xb _ (by omega) (by exact hxD)).mono ?_)))
            rintro e V2 ⟨v40, rfl, ho40, hb40⟩
            obtain ⟨a40, c40, rfl⟩ := Seg.shapeD ho40.seg
            refine ⟨_, rfl, ?_⟩
            simp only [Act.put, List.setIfInBounds_toArray, List.set_cons_succ, List.set_cons_zero]
            refine anyin_all2 0 3 (by kernel_rfl) ?_ ?_
            · refine opin_value hF 0 38 _ (.slice ar nr cr) _ rfl rfl rfl (by intro c hc; cases hc) (exec_loadc 39 _ rfl _ _ rfl (load_one 39 (fun _ => by kernel_rfl) _ _ _ _ ((hb3.drew.below hb40 hb3.lt).cell rfl))) ?_
              simp only [Act.put, List.setIfInBounds_toArray, List.set_cons_succ, List.set_cons_zero]
              refine anyin_all1 3 (by kernel_rfl) (opin_value hF 3 41 _ (.slice (some ⟨V2.heap.size, 0, none⟩) 1 1) _ rfl rfl rfl (by intro c hc; cases hc) (exec_rows _ rfl a40 xb.length c40 rfl) ?_)
              simp only [Act.put, List.setIfInBounds_toArray, List.set_cons_succ, List.set_cons_zero]
              have hbV : Below W.heap.size W (V2.alloc (.cells #[.slice a40 xb.length c40] 22)) := (hbD.trans (hb40.mono hbD.size)).alloc (Nat.le_trans hbD.size hb40.size) _
              have hgV : Gat (V2.alloc (.cells #[.slice a40 xb.length c40] 22)) (W2.heap.size + 1) (.slice ar nr cr) vs t.recs := hGt.below hbV (Nat.le_refl _)
              have hcV : (V2.alloc (.cells #[.slice a40 xb.length c40] 22)).cell? ⟨V2.heap.size, 0, none⟩ = some (.slice a40 xb.length c40) := (Blk.new V2 _ _).cell rfl
              have hoV : Own (V2.alloc (.cells #[.slice a40 xb.length c40] 22)) (W2.heap.size + 1) (.slice a40 xb.length c40) xb := (ho40.alloc _).mono (Nat.le_trans hA.B hbD.size)
              obtain ⟨v42, w42, hr42, hg42, hgr42, -⟩ := app_rows _ (W2.heap.size + 1) _ vs t.recs hgV V2.heap.size 1 _ xb hcV hoV HRL.out (Nat.le_trans hA.B hbV.size)
              obtain ⟨hbx, hAx, hcx⟩ := acc_row (v' := v42) hA hwh hbV hb3 hGt hg42 hgr42
              obtain ⟨a42, c42, rfl⟩ := hg42.sl
              refine anyin_all1 4 (by kernel_rfl) (opin_value hF 4 42 _ _ w42 rfl rfl rfl (by intro c hc; cases hc) (exec_app _ _ 39 39 rfl (.slice ar nr cr) (.slice (some ⟨V2.heap.size, 0, none⟩) 1 1) _ rfl rfl hr42) ?_)
              simp only [Act.put, List.setIfInBounds_toArray, List.set_cons_succ, List.set_cons_zero]
              refine anyin_all1 5 (by kernel_rfl) (opin_skip hF 5 _ _ rfl rfl rfl (by intro c hc; cases hc) (exec_storer _ _ rfl (w.heap.size + 1) 0 a42 (t.recs ++ [xb]).length c42 _ rfl rfl (hbx.cell rfl) (hbx.frozen 0)) ?_)
              refine wpAnyIn_done (by kernel_rfl) ?_ _
              gi_wp2
              exact ⟨keeps_chg _ hcx (fun k hk o ho => by rcases hk with rfl | hk; exact blk_isCells hb3 o ho; exact own_isCells hGt.own k hk o ho), hcx.weaken (fun q hq => by rcases hq with rfl | hq; exact .inl (.inr (.inl rfl)); exact .inr ((World.ownsRow.lt hGt.own q hq).1)), ⟨_, HF.out, hAx⟩⟩
            · refine opin_value hF 3 41 _ (.slice (some ⟨V2.heap.size, 0, none⟩) 1 1) _ rfl rfl rfl (by intro c hc; cases hc) (exec_rows _ rfl a40 xb.length c40 rfl) ?_
              simp only [Act.put, List.setIfInBounds_toArray, List.set_cons_succ, List.set_cons_zero]
              refine anyin_all1 0 (by kernel_rfl) (opin_value hF 0 38 _ (.slice ar nr cr) _ rfl rfl rfl (by intro c hc; cases hc) (exec_loadc 39 _ rfl _ _ rfl (load_one 39 (fun _ => by kernel_rfl) _ _ _ _ (((hb3.drew.below hb40 hb3.lt).alloc _).cell rfl))) ?_)
              simp only [Act.put, List.setIfInBounds_toArray, List.set_cons_succ, List.set_cons_zero]
              have hbV : Below W.heap.size W (V2.alloc (.cells #[.slice a40 xb.length c40] 22)) := (hbD.trans (hb40.mono hbD.size)).alloc (Nat.le_trans hbD.size hb40.size) _
              have hgV : Gat (V2.alloc (.cells #[.slice a40 xb.length c40] 22)) (W2.heap.size + 1) (.slice ar nr cr) vs t.recs := hGt.below hbV (Nat.le_refl _)
              have hcV : (V2.alloc (.cells #[.slice a40 xb.length c40] 22)).cell? ⟨V2.heap.size, 0, none⟩ = some (.slice a40 xb.length c40) := (Blk.new V2 _ _).cell rfl
              have hoV : Own (V2.alloc (.cells #[.slice a40 xb.length c40] 22)) (W2.heap.size + 1) (.slice a40 xb.length c40) xb := (ho40.alloc _).mono (Nat.le_trans hA.B hbD.size)
              obtain ⟨v42, w42, hr42, hg42, hgr42, -⟩ := app_rows _ (W2.heap.size + 1) _ vs t.recs hgV V2.heap.size 1 _ xb hcV hoV HRL.out (Nat.le_trans hA.B hbV.size)
              obtain ⟨hbx, hAx, hcx⟩ := acc_row (v' := v42) hA hwh hbV hb3 hGt hg42 hgr42
              obtain ⟨a42, c42, rfl⟩ := hg42.sl
              refine anyin_all1 4 (by kernel_rfl) (opin_value hF 4 42 _ _ w42 rfl rfl rfl (by intro c hc; cases hc) (exec_app _ _ 39 39 rfl (.slice ar nr cr) (.slice (some ⟨V2.heap.size, 0, none⟩) 1 1) _ rfl rfl hr42) ?_)
              simp only [Act.put, List.setIfInBounds_toArray, List.set_cons_succ, List.set_cons_zero]
              refine anyin_all1 5 (by kernel_rfl) (opin_skip hF 5 _ _ rfl rfl rfl (by intro c hc; cases hc) (exec_storer _ _ rfl (w.heap.size + 1) 0 a42 (t.recs ++ [xb]).length c42 _ rfl rfl (hbx.cell rfl) (hbx.frozen 0)) ?_)
              refine wpAnyIn_done (by kernel_rfl) ?_ _
              gi_wp2
              exact ⟨keeps_chg _ hcx (fun k hk o ho => by rcases hk with rfl | hk; exact blk_isCells hb3 o ho; exact own_isCells hGt.own k hk o ho), hcx.weaken (fun q hq => by rcases hq with rfl | hq; exact .inl (.inr (.inl rfl)); exact .inr ((World.ownsRow.lt hGt.own q hq).1)), ⟨_, HF.out, hAx⟩⟩
      by_cases h1 : kb = 1
      · have HF : Hid (stepW t (kb, xb) = none) := by show _ = _; unfold stepW; rw [if_neg (fun h => by rw [hwh] at h; cases h.2), if_neg (fun h => by rw [hwh] at h; cases h.2), if_neg (fun h => h3 h.1)]
        have e1 : (n8 kb == 1) = true := by unfold n8; rw [hn1.1 h1]; rfl
        have e2 : (n8 kb == 2) = false := by unfold n8; rw [hn1.1 h1]; rfl
        have e3 : (n8 kb == 3) = false := by unfold n8; rw [hn1.1 h1]; rfl
        clear hf2
        gi_wp2
        exact ⟨KeepsFrom.refl _ _, rfl, imgs pre, (kb, xb), t, hsn, ht, HF.out, hA⟩
      by_cases h2 : kb = 2
      · have HF : Hid (stepW t (kb, xb) = none) := by show _ = _; unfold stepW; rw [if_neg (fun h => by rw [hwh] at h; cases h.2), if_neg (fun h => by rw [hwh] at h; cases h.2), if_neg (fun h => h3 h.1)]
        have e1 : (n8 kb == 1) = false := by unfold n8; rw [hn2.1 h2]; rfl
        have e2 : (n8 kb == 2) = true := by unfold n8; rw [hn2.1 h2]; rfl
        have e3 : (n8 kb == 3) = false := by unfold n8; rw [hn2.1 h2]; rfl
        clear hf2
        gi_wp2
        exact ⟨KeepsFrom.refl _ _, rfl, imgs pre, (kb, xb), t, hsn, ht, HF.out, hA⟩
      · have HF : Hid (stepW t (kb, xb) = none) := by show _ = _; unfold stepW; rw [if_neg (fun h => by rw [hwh] at h; cases h.2), if_neg (fun h => by rw [hwh] at h; cases h.2), if_neg (fun h => h3 h.1)]
        have e1 : (n8 kb == 1) = false := by unfold n8; rw [beq_eq_false_iff_ne]; intro e; exact h1 (hn1.2 (by omega))
        have e2 : (n8 kb == 2) = false := by unfold n8; rw [beq_eq_false_iff_ne]; intro e; exact h2 (hn2.2 (by omega))
        have e3 : (n8 kb == 3) = false := by unfold n8; rw [beq_eq_false_iff_ne]; intro e; exact h3 (hn3.2 (by omega))
        clear hf2
        gi_wp2
        exact ⟨KeepsFrom.refl _ _, rfl, imgs pre, (kb, xb), t, hsn, ht, HF.out, hA⟩
  case done =>
    rintro D ys W hD hS ⟨t, ht, hA⟩ hK
    rw [hS] at ht
    have htell : goW zeroT (seqOf bs) = t := by
      have := goW_append (seqOf bs) [] zeroT t ht
      rwa [List.append_nil] at this
    have HTD := told_seq bs
    rw [htell] at HTD
    obtain ⟨sv, hb2, hO⟩ := hA.st
    obtain ⟨rv, vs, hb3, hGt⟩ := hA.rc
    have hb4 := hA.wh
    have hB := hA.bel
    have hBb := hA.B
    have hlo := hA.lo
    have hhi := hA.hi
    obtain ⟨a2, c2, rfl⟩ := Seg.shapeD hO.seg
    obtain ⟨a3, c3, rfl⟩ := hGt.sl
    have x2 := hb2.cell (j := 0) rfl
    have f2 := hb2.frozen 0
    have x3 := hb3.cell (j := 0) rfl
    have f3 := hb3.frozen 0
    have x4 := hb4.cell (j := 0) rfl
    simp only [World.size_alloc] at hD
    have hDB : W2.heap.size + 1 ≤ D := hD
    cases hwh : t.whole with
    | false =>
      rw [hwh] at x4
      rw [hwh] at HTD
      have HT0 : Hid (toldB bs = ([], [])) := HTD
      clear htell HTD hA ht
      have hcW : Chg (fun q => q = w.heap.size ∨ q = w.heap.size + 1) W ((W.setCell ⟨w.heap.size, 0, none⟩ (.slice none 0 0)).setCell ⟨w.heap.size + 1, 0, none⟩ (.slice none 0 0)) := ((Chg.refl (fun q => q = w.heap.size ∨ q = w.heap.size + 1) W).setCell w.heap.size 0 _ (fun _ => .inl rfl)).setCell (w.heap.size + 1) 0 _ (fun _ => .inr rfl)
      have y2 : Blk ((W.setCell ⟨w.heap.size, 0, none⟩ (.slice none 0 0)).setCell ⟨w.heap.size + 1, 0, none⟩ (.slice none 0 0)) w.heap.size 22 #[.slice none 0 0] := (hb2.set 0 (.slice none 0 0)).setOther _ _ (by show w.heap.size ≠ w.heap.size + 1; omega)
      have y3 : Blk ((W.setCell ⟨w.heap.size, 0, none⟩ (.slice none 0 0)).setCell ⟨w.heap.size + 1, 0, none⟩ (.slice none 0 0)) (w.heap.size + 1) 39 #[.slice none 0 0] := (hb3.setOther _ _ (by show w.heap.size + 1 ≠ w.heap.size; omega)).set 0 (.slice none 0 0)
      gi_wp2
      have hDl : D < W.heap.size := (Array.getElem?_eq_some_iff.1 hK).1
      have hK' : ((W.setCell ⟨w.heap.size, 0, none⟩ (.slice none 0 0)).setCell ⟨w.heap.size + 1, 0, none⟩ (.slice none 0 0)).heap[D]? = some (.deferred (some [])) := by rw [hcW.2 D hDl (fun e => by omega)]; exact hK
      (try simp only [Exit.noGoto])
      refine ⟨by simp, .inl ⟨_, _, rfl, run_takeDeferred hK', ?_⟩⟩
      have hc5 : Chg (fun q => q = D) ((W.setCell ⟨w.heap.size, 0, none⟩ (.slice none 0 0)).setCell ⟨w.heap.size + 1, 0, none⟩ (.slice none 0 0)) ((((W.setCell ⟨w.heap.size, 0, none⟩ (.slice none 0 0)).setCell ⟨w.heap.size + 1, 0, none⟩ (.slice none 0 0))).putObj D (.deferred none)) := Chg.of_grown (grownBy_putObj' _ D (.deferred none)) (fun k e => by cases e; rfl)
      have hno : ∀ {base : Nat} {e : TypeId} {v : Value} {n : Nat} {xs : List Value}, (((W.setCell ⟨w.heap.size, 0, none⟩ (.slice none 0 0)).setCell ⟨w.heap.size + 1, 0, none⟩ (.slice none 0 0))).ownsRow base e 1 v n xs → ∀ k, v.ownBlock = some k → ¬ k = D := fun h k hk e => by
        obtain ⟨c', f', hcf⟩ := own_cells h hk
        rw [e, hK'] at hcf
        cases hcf
      refine ⟨.tuple #[.slice none 0 0, .slice none 0 0], readp_results _ _ _ _ _ _ rfl rfl ((y2.chg hc5 (by omega)).cell rfl) ((y3.chg hc5 (by omega)).cell rfl), .slice none 0 0, .slice none 0 0, [], rfl, ?_, ?_, ?_⟩
      · rw [HT0.out]; exact own_none _ _
      · rw [HT0.out]; exact Gat.nil _ _
      · exact ((hB.trans (hcW.below (B := w.heap.size) (fun k hk => by omega) hB.size))).trans (hc5.below (B := w.heap.size) (fun k hk => by omega) (Nat.le_trans hB.size hcW.size))
    | true =>
      rw [hwh] at x4
      rw [hwh] at HTD
      have HT1 : Hid (toldB bs = (t.state, t.recs)) := HTD
      clear htell HTD hA ht
      have hcW : Chg (fun q => q = w.heap.size ∨ q = w.heap.size + 1) W ((W.drew.setCell ⟨w.heap.size, 0, none⟩ (.slice a2 t.state.length c2)).setCell ⟨w.heap.size + 1, 0, none⟩ (.slice a3 t.recs.length c3)) := (((Chg.refl (fun q => q = w.heap.size ∨ q = w.heap.size + 1) W).drew).setCell w.heap.size 0 _ (fun _ => .inl rfl)).setCell (w.heap.size + 1) 0 _ (fun _ => .inr rfl)
      have y1 : Blk (W.drew.setCell ⟨w.heap.size, 0, none⟩ (.slice a2 t.state.length c2)) (w.heap.size + 1) 39 #[.slice a3 t.recs.length c3] := hb3.drew.setOther _ _ (by show w.heap.size + 1 ≠ w.heap.size; omega)
      have y0 : Blk (W.drew.setCell ⟨w.heap.size, 0, none⟩ (.slice a2 t.state.length c2)) w.heap.size 22 #[.slice a2 t.state.length c2] := hb2.drew.set 0 _
      have y2 : Blk ((W.drew.setCell ⟨w.heap.size, 0, none⟩ (.slice a2 t.state.length c2)).setCell ⟨w.heap.size + 1, 0, none⟩ (.slice a3 t.recs.length c3)) w.heap.size 22 #[.slice a2 t.state.length c2] := y0.setOther _ _ (by show w.heap.size ≠ w.heap.size + 1; omega)
      have y3 : Blk ((W.drew.setCell ⟨w.heap.size, 0, none⟩ (.slice a2 t.state.length c2)).setCell ⟨w.heap.size + 1, 0, none⟩ (.slice a3 t.recs.length c3)) (w.heap.size + 1) 39 #[.slice a3 t.recs.length c3] := y1.set 0 _
      gi_wp2_with fail
      refine wpIn_wide.2 ?_
      have hS0 : W.drew.cell? ⟨w.heap.size, 0, none⟩ = some (.slice a2 t.state.length c2) ∧ W.drew.cell? ⟨w.heap.size + 1, 0, none⟩ = some (.slice a3 t.recs.length c3) := ⟨x2, x3⟩
      have hS1 : (W.drew.setCell ⟨w.heap.size, 0, none⟩ (.slice a2 t.state.length c2)).cell? ⟨w.heap.size, 0, none⟩ = some (.slice a2 t.state.length c2) ∧ (W.drew.setCell ⟨w.heap.size, 0, none⟩ (.slice a2 t.state.length c2)).cell? ⟨w.heap.size + 1, 0, none⟩ = some (.slice a3 t.recs.length c3) := ⟨y0.cell rfl, y1.cell rfl⟩
      have hS2 : ((W.drew.setCell ⟨w.heap.size, 0, none⟩ (.slice a2 t.state.length c2)).setCell ⟨w.heap.size + 1, 0, none⟩ (.slice a3 t.recs.length c3)).cell? ⟨w.heap.size, 0, none⟩ = some (.slice a2 t.state.length c2) ∧ ((W.drew.setCell ⟨w.heap.size, 0, none⟩ (.slice a2 t.state.length c2)).setCell ⟨w.heap.size + 1, 0, none⟩ (.slice a3 t.recs.length c3)).cell? ⟨w.heap.size + 1, 0, none⟩ = some (.slice a3 t.recs.length c3) := ⟨y2.cell rfl, y3.cell rfl⟩
      refine held_begin (fun V => V.cell? ⟨w.heap.size, 0, none⟩ = some (.slice a2 t.state.length c2) ∧ V.cell? ⟨w.heap.size + 1, 0, none⟩ = some (.slice a3 t.recs.length c3)) (by kernel_rfl) ?_
      refine held_take 0 45 _ (.slice a2 t.state.length c2) rfl rfl (by kernel_rfl) (by kernel_rfl) (by kernel_rfl) rfl hS0 (fun V hV => exec_loadc 22 _ rfl _ _ rfl (load_one 22 (fun _ => by kernel_rfl) V _ _ _ hV.1)) ?_
      simp only [Act.put, List.setIfInBounds_toArray, List.set_cons_succ, List.set_cons_zero]
      refine held_take 1 46 _ (.slice a3 t.recs.length c3) rfl rfl (by kernel_rfl) (by kernel_rfl) (by kernel_rfl) rfl hS0 (fun V hV => exec_loadc 39 _ rfl _ _ rfl (load_one 39 (fun _ => by kernel_rfl) V _ _ _ hV.2)) ?_
      simp only [Act.put, List.setIfInBounds_toArray, List.set_cons_succ, List.set_cons_zero]
      refine held_all1 2 (by kernel_rfl) (op_skip 2 _ _ rfl rfl rfl (exec_stores _ _ rfl w.heap.size 0 a2 t.state.length c2 _ rfl rfl hS0.1 (hb2.drew.frozen 0)) ⟨hS1, ?_⟩)
      refine held_all1 3 (by kernel_rfl) (op_skip 3 _ _ rfl rfl rfl (exec_storer _ _ rfl (w.heap.size + 1) 0 a3 t.recs.length c3 _ rfl rfl hS1.2 (y1.frozen 0)) ⟨hS2, ?_⟩)
      refine wpAnyH_done (by kernel_rfl) ?_ _
      refine NoPanic.normal ?_
      gi_wp2
      have hDl : D < W.heap.size := (Array.getElem?_eq_some_iff.1 hK).1
      have hK' : ((W.drew.setCell ⟨w.heap.size, 0, none⟩ (.slice a2 t.state.length c2)).setCell ⟨w.heap.size + 1, 0, none⟩ (.slice a3 t.recs.length c3)).heap[D]? = some (.deferred (some [])) := by rw [hcW.2 D hDl (fun e => by omega)]; exact hK
      (try simp only [Exit.noGoto])
      refine ⟨by simp, .inl ⟨_, _, rfl, run_takeDeferred hK', ?_⟩⟩
      have hc5 : Chg (fun q => q = D) ((W.drew.setCell ⟨w.heap.size, 0, none⟩ (.slice a2 t.state.length c2)).setCell ⟨w.heap.size + 1, 0, none⟩ (.slice a3 t.recs.length c3)) ((((W.drew.setCell ⟨w.heap.size, 0, none⟩ (.slice a2 t.state.length c2)).setCell ⟨w.heap.size + 1, 0, none⟩ (.slice a3 t.recs.length c3))).putObj D (.deferred none)) := Chg.of_grown (grownBy_putObj' _ D (.deferred none)) (fun k e => by cases e; rfl)
      have hno : ∀ {base : Nat} {e : TypeId} {v : Value} {n : Nat} {xs : List Value}, (((W.drew.setCell ⟨w.heap.size, 0, none⟩ (.slice a2 t.state.length c2)).setCell ⟨w.heap.size + 1, 0, none⟩ (.slice a3 t.recs.length c3))).ownsRow base e 1 v n xs → ∀ k, v.ownBlock = some k → ¬ k = D := fun h k hk e => by
        obtain ⟨c', f', hcf⟩ := own_cells h hk
        rw [e, hK'] at hcf
        cases hcf
      refine ⟨.tuple #[.slice a2 t.state.length c2, .slice a3 t.recs.length c3], readp_results _ _ _ _ _ _ rfl rfl ((y2.chg hc5 (by omega)).cell rfl) ((y3.chg hc5 (by omega)).cell rfl), .slice a2 t.state.length c2, .slice a3 t.recs.length c3, vs, rfl, ?_, ?_, ?_⟩
      · rw [HT1.out]
        have hO5 : Own ((W.drew.setCell ⟨w.heap.size, 0, none⟩ (.slice a2 t.state.length c2)).setCell ⟨w.heap.size + 1, 0, none⟩ (.slice a3 t.recs.length c3)) (W2.heap.size + 1) (.slice a2 t.state.length c2) t.state := hO.chg hcW (fun k hk e => by have := (hO.blocks k hk).1; omega)
        exact (hO5.chg hc5 (hno hO5)).mono (by omega)
      · rw [HT1.out]
        have hG5 : Gat ((W.drew.setCell ⟨w.heap.size, 0, none⟩ (.slice a2 t.state.length c2)).setCell ⟨w.heap.size + 1, 0, none⟩ (.slice a3 t.recs.length c3)) (W2.heap.size + 1) (.slice a3 t.recs.length c3) vs t.recs := hGt.chg hcW (fun q hq => by omega)
        exact ⟨gat_mono7 (ownsRow_chg hG5.own hc5 (hno hG5.own)) (by omega), fun i u r hu hr => ((hG5.rows i u r hu hr).chg hc5 (hno (hG5.rows i u r hu hr))).mono (by omega)⟩
      · exact ((hB.trans (hcW.below (B := w.heap.size) (fun k hk => by omega) hB.size))).trans (hc5.below (B := w.heap.size) (fun k hk => by omega) (Nat.le_trans hB.size hcW.size))
  case stop =>
    rintro D c pre W hD ⟨rest, hrest⟩ ⟨rfl, p, y, t, hp, ht, hst, hA⟩ hK
    have htell : goW zeroT (seqOf bs) = t := by
      rw [← hrest, hp, List.append_assoc, goW_append p _ zeroT t ht]
      show (match stepW t y with | none => t | some t' => goW t' rest) = t
      rw [hst]
    have HTD := told_seq bs
    clear hrest hp hst
    rw [htell] at HTD
    obtain ⟨sv, hb2, hO⟩ := hA.st
    obtain ⟨rv, vs, hb3, hGt⟩ := hA.rc
    have hb4 := hA.wh
    have hB := hA.bel
    have hBb := hA.B
    have hlo := hA.lo
    have hhi := hA.hi
    obtain ⟨a2, c2, rfl⟩ := Seg.shapeD hO.seg
    obtain ⟨a3, c3, rfl⟩ := hGt.sl
    have x2 := hb2.cell (j := 0) rfl
    have f2 := hb2.frozen 0
    have x3 := hb3.cell (j := 0) rfl
    have f3 := hb3.frozen 0
    have x4 := hb4.cell (j := 0) rfl
    simp only [World.size_alloc] at hD
    have hDB : W2.heap.size + 1 ≤ D := hD
    cases hwh : t.whole with
    | false =>
      rw [hwh] at x4
      rw [hwh] at HTD
      have HT0 : Hid (toldB bs = ([], [])) := HTD
      clear htell HTD hA ht
      have hcW : Chg (fun q => q = w.heap.size ∨ q = w.heap.size + 1) W ((W.setCell ⟨w.heap.size, 0, none⟩ (.slice none 0 0)).setCell ⟨w.heap.size + 1, 0, none⟩ (.slice none 0 0)) := ((Chg.refl (fun q => q = w.heap.size ∨ q = w.heap.size + 1) W).setCell w.heap.size 0 _ (fun _ => .inl rfl)).setCell (w.heap.size + 1) 0 _ (fun _ => .inr rfl)
      have y2 : Blk ((W.setCell ⟨w.heap.size, 0, none⟩ (.slice none 0 0)).setCell ⟨w.heap.size + 1, 0, none⟩ (.slice none 0 0)) w.heap.size 22 #[.slice none 0 0] := (hb2.set 0 (.slice none 0 0)).setOther _ _ (by show w.heap.size ≠ w.heap.size + 1; omega)
      have y3 : Blk ((W.setCell ⟨w.heap.size, 0, none⟩ (.slice none 0 0)).setCell ⟨w.heap.size + 1, 0, none⟩ (.slice none 0 0)) (w.heap.size + 1) 39 #[.slice none 0 0] := (hb3.setOther _ _ (by show w.heap.size + 1 ≠ w.heap.size; omega)).set 0 (.slice none 0 0)
      gi_wp2
      have hDl : D < W.heap.size := (Array.getElem?_eq_some_iff.1 hK).1
      have hK' : ((W.setCell ⟨w.heap.size, 0, none⟩ (.slice none 0 0)).setCell ⟨w.heap.size + 1, 0, none⟩ (.slice none 0 0)).heap[D]? = some (.deferred (some [])) := by rw [hcW.2 D hDl (fun e => by omega)]; exact hK
      (try simp only [Exit.noGoto])
      refine ⟨by simp, .inl ⟨_, _, rfl, run_takeDeferred hK', ?_⟩⟩
      have hc5 : Chg (fun q => q = D) ((W.setCell ⟨w.heap.size, 0, none⟩ (.slice none 0 0)).setCell ⟨w.heap.size + 1, 0, none⟩ (.slice none 0 0)) ((((W.setCell ⟨w.heap.size, 0, none⟩ (.slice none 0 0)).setCell ⟨w.heap.size + 1, 0, none⟩ (.slice none 0 0))).putObj D (.deferred none)) := Chg.of_grown (grownBy_putObj' _ D (.deferred none)) (fun k e => by cases e; rfl)
      have hno : ∀ {base : Nat} {e : TypeId} {v : Value} {n : Nat} {xs : List Value}, (((W.setCell ⟨w.heap.size, 0, none⟩ (.slice none 0 0)).setCell ⟨w.heap.size + 1, 0, none⟩ (.slice none 0 0))).ownsRow base e 1 v n xs → ∀ k, v.ownBlock = some k → ¬ k = D := fun h k hk e => by
        obtain ⟨c', f', hcf⟩ := own_cells h hk
        rw [e, hK'] at hcf
        cases hcf
      refine ⟨.tuple #[.slice none 0 0, .slice none 0 0], readp_results _ _ _ _ _ _ rfl rfl ((y2.chg hc5 (by omega)).cell rfl) ((y3.chg hc5 (by omega)).cell rfl), .slice none 0 0, .slice none 0 0, [], rfl, ?_, ?_, ?_⟩
      · rw [HT0.out]; exact own_none _ _
      · rw [HT0.out]; exact Gat.nil _ _
      · exact ((hB.trans (hcW.below (B := w.heap.size) (fun k hk => by omega) hB.size))).trans (hc5.below (B := w.heap.size) (fun k hk => by omega) (Nat.le_trans hB.size hcW.size))
    | true =>
      rw [hwh] at x4
      rw [hwh] at HTD
      have HT1 : Hid (toldB bs = (t.state, t.recs)) := HTD
      clear htell HTD hA ht
      have hcW : Chg (fun q => q = w.heap.size ∨ q = w.heap.size + 1) W ((W.drew.setCell ⟨w.heap.size, 0, none⟩ (.slice a2 t.state.length c2)).setCell ⟨w.heap.size + 1, 0, none⟩ (.slice a3 t.recs.length c3)) := (((Chg.refl (fun q => q = w.heap.size ∨ q = w.heap.size + 1) W).drew).setCell w.heap.size 0 _ (fun _ => .inl rfl)).setCell (w.heap.size + 1) 0 _ (fun _ => .inr rfl)
      have y1 : Blk (W.drew.setCell ⟨w.heap.size, 0, none⟩ (.slice a2 t.state.length c2)) (w.heap.size + 1) 39 #[.slice a3 t.recs.length c3] := hb3.drew.setOther _ _ (by show w.heap.size + 1 ≠ w.heap.size; omega)
      have y0 : Blk (W.drew.setCell ⟨w.heap.size, 0, none⟩ (.slice a2 t.state.length c2)) w.heap.size 22 #[.slice a2 t.state.length c2] := hb2.drew.set 0 _
      have y2 : Blk ((W.drew.setCell ⟨w.heap.size, 0, none⟩ (.slice a2 t.state.length c2)).setCell ⟨w.heap.size + 1, 0, none⟩ (.slice a3 t.recs.length c3)) w.heap.size 22 #[.slice a2 t.state.length c2] := y0.setOther _ _ (by show w.heap.size ≠ w.heap.size + 1; omega)
      have y3 : Blk ((W.drew.setCell ⟨w.heap.size, 0, none⟩ (.slice a2 t.state.length c2)).setCell ⟨w.heap.size + 1, 0, none⟩ (.slice a3 t.recs.length c3)) (w.heap.size + 1) 39 #[.slice a3 t.recs.length c3] := y1.set 0 _
      gi_wp2_with fail
      refine wpIn_wide.2 ?_
      have hS0 : W.drew.cell? ⟨w.heap.size, 0, none⟩ = some (.slice a2 t.state.length c2) ∧ W.drew.cell? ⟨w.heap.size + 1, 0, none⟩ = some (.slice a3 t.recs.length c3) := ⟨x2, x3⟩
      have hS1 : (W.drew.setCell ⟨w.heap.size, 0, none⟩ (.slice a2 t.state.length c2)).cell? ⟨w.heap.size, 0, none⟩ = some (.slice a2 t.state.length c2) ∧ (W.drew.setCell ⟨w.heap.size, 0, none⟩ (.slice a2 t.state.length c2)).cell? ⟨w.heap.size + 1, 0, none⟩ = some (.slice a3 t.recs.length c3) := ⟨y0.cell rfl, y1.cell rfl⟩
      have hS2 : ((W.drew.setCell ⟨w.heap.size, 0, none⟩ (.slice a2 t.state.length c2)).setCell ⟨w.heap.size + 1, 0, none⟩ (.slice a3 t.recs.length c3)).cell? ⟨w.heap.size, 0, none⟩ = some (.slice a2 t.state.length c2) ∧ ((W.drew.setCell ⟨w.heap.size, 0, none⟩ (.slice a2 t.state.length c2)).setCell ⟨w.heap.size + 1, 0, none⟩ (.slice a3 t.recs.length c3)).cell? ⟨w.heap.size + 1, 0, none⟩ = some (.slice a3 t.recs.length c3) := ⟨y2.cell rfl, y3.cell rfl⟩
      refine held_begin (fun V => V.cell? ⟨w.heap.size, 0, none⟩ = some (.slice a2 t.state.length c2) ∧ V.cell? ⟨w.heap.size + 1, 0, none⟩ = some (.slice a3 t.recs.length c3)) (by kernel_rfl) ?_
      refine held_take 0 45 _ (.slice a2 t.state.length c2) rfl rfl (by kernel_rfl) (by kernel_rfl) (by kernel_rfl) rfl hS0 (fun V hV => exec_loadc 22 _ rfl _ _ rfl (load_one 22 (fun _ => by kernel_rfl) V _ _ _ hV.1)) ?_
      simp only [Act.put, List.setIfInBounds_toArray, List.set_cons_succ, List.set_cons_zero]
      refine held_take 1 46 _ (.slice a3 t.recs.length c3) rfl rfl (by kernel_rfl) (by kernel_rfl) (by kernel_rfl) rfl hS0 (fun V hV => exec_loadc 39 _ rfl _ _ rfl (load_one 39 (fun _ => by kernel_rfl) V _ _ _ hV.2)) ?_
      simp only [Act.put, List.setIfInBounds_toArray, List.set_cons_succ, List.set_cons_zero]
      refine held_all1 2 (by kernel_rfl) (op_skip 2 _ _ rfl rfl rfl (exec_stores _ _ rfl w.heap.size 0 a2 t.state.length c2 _ rfl rfl hS0.1 (hb2.drew.frozen 0)) ⟨hS1, ?_⟩)
      refine held_all1 3 (by kernel_rfl) (op_skip 3 _ _ rfl rfl rfl (exec_storer _ _ rfl (w.heap.size + 1) 0 a3 t.recs.length c3 _ rfl rfl hS1.2 (y1.frozen 0)) ⟨hS2, ?_⟩)
      refine wpAnyH_done (by kernel_rfl) ?_ _
      refine NoPanic.normal ?_
      gi_wp2
      have hDl : D < W.heap.size := (Array.getElem?_eq_some_iff.1 hK).1
      have hK' : ((W.drew.setCell ⟨w.heap.size, 0, none⟩ (.slice a2 t.state.length c2)).setCell ⟨w.heap.size + 1, 0, none⟩ (.slice a3 t.recs.length c3)).heap[D]? = some (.deferred (some [])) := by rw [hcW.2 D hDl (fun e => by omega)]; exact hK
      (try simp only [Exit.noGoto])
      refine ⟨by simp, .inl ⟨_, _, rfl, run_takeDeferred hK', ?_⟩⟩
      have hc5 : Chg (fun q => q = D) ((W.drew.setCell ⟨w.heap.size, 0, none⟩ (.slice a2 t.state.length c2)).setCell ⟨w.heap.size + 1, 0, none⟩ (.slice a3 t.recs.length c3)) ((((W.drew.setCell ⟨w.heap.size, 0, none⟩ (.slice a2 t.state.length c2)).setCell ⟨w.heap.size + 1, 0, none⟩ (.slice a3 t.recs.length c3))).putObj D (.deferred none)) := Chg.of_grown (grownBy_putObj' _ D (.deferred none)) (fun k e => by cases e; rfl)
      have hno : ∀ {base : Nat} {e : TypeId} {v : Value} {n : Nat} {xs : List Value}, (((W.drew.setCell ⟨w.heap.size, 0, none⟩ (.slice a2 t.state.length c2)).setCell ⟨w.heap.size + 1, 0, none⟩ (.slice a3 t.recs.length c3))).ownsRow base e 1 v n xs → ∀ k, v.ownBlock = some k → ¬ k = D := fun h k hk e => by
        obtain ⟨c', f', hcf⟩ := own_cells h hk
        rw [e, hK'] at hcf
        cases hcf
      refine ⟨.tuple #[.slice a2 t.state.length c2, .slice a3 t.recs.length c3], readp_results _ _ _ _ _ _ rfl rfl ((y2.chg hc5 (by omega)).cell rfl) ((y3.chg hc5 (by omega)).cell rfl), .slice a2 t.state.length c2, .slice a3 t.recs.length c3, vs, rfl, ?_, ?_, ?_⟩
      · rw [HT1.out]
        have hO5 : Own ((W.drew.setCell ⟨w.heap.size, 0, none⟩ (.slice a2 t.state.length c2)).setCell ⟨w.heap.size + 1, 0, none⟩ (.slice a3 t.recs.length c3)) (W2.heap.size + 1) (.slice a2 t.state.length c2) t.state := hO.chg hcW (fun k hk e => by have := (hO.blocks k hk).1; omega)
        exact (hO5.chg hc5 (hno hO5)).mono (by omega)
      · rw [HT1.out]
        have hG5 : Gat ((W.drew.setCell ⟨w.heap.size, 0, none⟩ (.slice a2 t.state.length c2)).setCell ⟨w.heap.size + 1, 0, none⟩ (.slice a3 t.recs.length c3)) (W2.heap.size + 1) (.slice a3 t.recs.length c3) vs t.recs := hGt.chg hcW (fun q hq => by omega)
        exact ⟨gat_mono7 (ownsRow_chg hG5.own hc5 (hno hG5.own)) (by omega), fun i u r hu hr => ((hG5.rows i u r hu hr).chg hc5 (hno (hG5.rows i u r hu hr))).mono (by omega)⟩
      · exact ((hB.trans (hcW.below (B := w.heap.size) (fun k hk => by omega) hB.size))).trans (hc5.below (B := w.heap.size) (fun k hk => by omega) (Nat.le_trans hB.size hcW.size))
end Go.Proofs.Ytdojdkmchipccaa
