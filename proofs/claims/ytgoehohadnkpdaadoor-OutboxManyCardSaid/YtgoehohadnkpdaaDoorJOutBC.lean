/-
  What is proved here: a box on a flash that keeps its power, as laws hold it: Put, Ack; the small thing that the statements on outbox ask first is so.
  Conditions: the variable fourBits holds the sixteen words.
-/
import Derived.Test.YtgoehohadnkpdaaDoorJOutCalm
namespace Go.Proofs.YtgoehohadnkpdaaDoor
open Go.RowKit

/-- A box and its flash, as a law holds them. -/
structure BC (w0 W : World) (L : PLay6) (g j n e : Nat) (wv : Value) (x : XS) (s : FS) : Prop where
  bx : BX W L g j w0.heap.size wv x s
  cb : CB s n j e x
  lay : L.n = n
  own : ∀ q, bT L g wv q → w0.heap.size ≤ q
theorem BC.after {w0 W W' : World} {L : PLay6} {g j n e : Nat} {wv : Value} {x : XS} {s : FS} (h : BC w0 W L g j n e wv x s) (hb : Below W.heap.size W W') : BC w0 W' L g j n e wv x s := ⟨h.bx.after hb, h.cb, h.lay, h.own⟩
theorem BC.chg {w0 W W' : World} {L : PLay6} {g j n e : Nat} {wv : Value} {x : XS} {s : FS} {S : Nat → Prop} (h : BC w0 W L g j n e wv x s) (hc : Chg S W W') (hS : ∀ q, S q → ¬ bT L g wv q) : BC w0 W' L g j n e wv x s :=
  ⟨h.bx.chg hc (fun q hq => ⟨fun e => hS q hq (.inl e), fun e => hS q hq (.inr (.inl e)), fun e => hS q hq (.inr (.inr e))⟩), h.cb, h.lay, h.own⟩
theorem BC.below {w0 W W' : World} {L : PLay6} {g j n e : Nat} {wv : Value} {x : XS} {s : FS} (h : BC w0 W L g j n e wv x s) (hB : Below w0.heap.size w0 W) (hc : Chg (bT L g wv) W W') : Below w0.heap.size w0 W' := hB.trans (hc.below h.own hB.size)
theorem own_next {w0 W : World} {L : PLay6} {g j n e : Nat} {wv wv' : Value} {x : XS} {s : FS} (h : BC w0 W L g j n e wv x s) (hB : Below w0.heap.size w0 W) (hv : ∀ q, wv'.ownBlock = some q → wv.ownBlock = some q ∨ W.heap.size ≤ q) : ∀ q, bT L g wv' q → w0.heap.size ≤ q := fun q hq => by
  rcases hq with e | e | e
  · exact h.own q (.inl e)
  · exact h.own q (.inr (.inl e))
  · rcases hv q e with e2 | e2
    · exact h.own q (.inr (.inr e2))
    · exact Nat.le_trans hB.size e2
theorem BC.put {w0 W : World} {L : PLay6} {g j n e : Nat} {wv : Value} {x : XS} {s : FS} (h : BC w0 W L g j n e wv x s) (hB : Below w0.heap.size w0 W) (hj : j + 1 < n) (r : RP) (hr : r.ok) (hs : x.last.seq < 1073741824) (he : e < s.most) (hlen : x.wt.length < 1000) (hgf : 1 < w0.heap.size) (hf : Tab w0 1 (fours.map v32)) :
    Calls Tryd.prog 13 #[.pointer (some ⟨g, 0, none⟩), rpV r] W fun e' W' => ∃ wv' s', s'.most = s.most ∧ (∀ q, wv'.ownBlock = some q → wv.ownBlock = some q ∨ W.heap.size ≤ q) ∧ Chg (bT L g wv) W W' ∧
      ((¬ fullX x ∧ e' = .returned (.tuple #[.int .i64 ((x.last.seq + 1 : Nat) : Int), .int .i64 0]) ∧ BC w0 W' L g j n (e + 1) wv' ⟨x.wt ++ [nextX x r], nextX x r, false⟩ s') ∨ (fullX x ∧ e' = .returned (.tuple #[.int .i64 0, .int .i64 3]) ∧ BC w0 W' L g j n e wv' x s')) := by
  refine (putP L s g j w0.heap.size wv x r W h.bx h.cb.up (by rw [h.lay]; exact hj) h.cb.wh h.cb.la.1 h.cb.la.2 (by omega) hlen hB.size (Nat.lt_of_lt_of_le hgf hB.size) (hf.below hB hgf) (fun hx => by have := h.own _ (.inl hx); omega) (fun hx => by have := h.own g (.inr (.inl rfl)); omega)).mono ?_
  rintro e' W' ⟨wv', rfl, hbx, hv, hc⟩
  have ho := own_next h hB hv
  rcases h.cb.put hj r hr hs he with ⟨hf1, s', h1, h2, h3⟩ | ⟨hf1, h1⟩
  · rw [h1] at hbx ⊢
    exact ⟨wv', s', h3, hv, hc, .inl ⟨hf1, rfl, ⟨hbx, h2, h.lay, ho⟩⟩⟩
  · rw [h1] at hbx ⊢
    exact ⟨wv', s, rfl, hv, hc, .inr ⟨hf1, rfl, ⟨hbx, h.cb, h.lay, ho⟩⟩⟩
theorem BC.bad {w0 W : World} {L : PLay6} {g j n e : Nat} {wv : Value} {x : XS} {s : FS} (h : BC w0 W L g j n e wv x s) (hB : Below w0.heap.size w0 W) (hj : j + 1 < n) (r : RP) (hr : rightO r = false) (hs : x.last.seq < 1073741824) (hlen : x.wt.length < 1000) (hgf : 1 < w0.heap.size) (hf : Tab w0 1 (fours.map v32)) :
    Calls Tryd.prog 13 #[.pointer (some ⟨g, 0, none⟩), rpV r] W fun e' W' => ∃ wv', (∀ q, wv'.ownBlock = some q → wv.ownBlock = some q ∨ W.heap.size ≤ q) ∧ Chg (bT L g wv) W W' ∧ e' = .returned (.tuple #[.int .i64 0, .int .i64 1]) ∧ BC w0 W' L g j n e wv' x s := by
  refine (putP L s g j w0.heap.size wv x r W h.bx h.cb.up (by rw [h.lay]; exact hj) h.cb.wh h.cb.la.1 h.cb.la.2 (by omega) hlen hB.size (Nat.lt_of_lt_of_le hgf hB.size) (hf.below hB hgf) (fun hx => by have := h.own _ (.inl hx); omega) (fun hx => by have := h.own g (.inr (.inl rfl)); omega)).mono ?_
  rintro e' W' ⟨wv', rfl, hbx, hv, hc⟩
  have ho := own_next h hB hv
  have h1 : putX x j s r = (0, 1, x, s) := by
    unfold putX
    rw [h.cb.br, if_neg (by decide), hr, if_pos rfl]
  rw [h1] at hbx ⊢
  exact ⟨wv', hv, hc, rfl, ⟨hbx, h.cb, h.lay, ho⟩⟩
theorem BC.ack {w0 W : World} {L : PLay6} {g j n e : Nat} {wv : Value} {x : XS} {s : FS} (h : BC w0 W L g j n e wv x s) (hj : j + 1 < n) (m : Int) :
    Calls Tryd.prog 15 #[.pointer (some ⟨g, 0, none⟩), .int .i64 m] W fun e' W' => ∃ wv' s', s'.most = s.most ∧ wv'.ownBlock = wv.ownBlock ∧ Chg (bT L g wv) W W' ∧
      ((∃ i, idxX x.wt m = some i ∧ e' = .returned (.int .i64 0) ∧ BC w0 W' L g j n e wv' ⟨x.wt.eraseIdx i, x.last, false⟩ s') ∨ (idxX x.wt m = none ∧ e' = .returned (.int .i64 4) ∧ BC w0 W' L g j n e wv' x s')) := by
  refine (ackP L s g j w0.heap.size wv x m W h.bx (by rw [h.lay]; exact hj) h.cb.ins).mono ?_
  rintro e' W' ⟨wv', rfl, hbx, hv, hc⟩
  have ho : ∀ q, bT L g wv' q → w0.heap.size ≤ q := fun q hq => h.own q (by unfold bT at hq ⊢; rw [hv] at hq; exact hq)
  cases hi : idxX x.wt m with
  | none =>
    rw [h.cb.noack m hi] at hbx ⊢
    exact ⟨wv', s, rfl, hv, hc, .inr ⟨rfl, rfl, ⟨hbx, h.cb, h.lay, ho⟩⟩⟩
  | some i =>
    obtain ⟨s', h1, h2, h3⟩ := h.cb.ack hj m i hi
    rw [h1] at hbx ⊢
    exact ⟨wv', s', h3, hv, hc, .inl ⟨i, rfl, rfl, ⟨hbx, h2, h.lay, ho⟩⟩⟩
theorem QsR.shape {w : World} {base : Nat} {v : Value} {l : List XE} (h : QsR w base v l) : ∃ ao c, v = .slice ao l.length c := by
  rcases h.2 with ⟨h1, h2⟩ | ⟨g, cap, cur, h1, _⟩
  · exact ⟨none, 0, by rw [h1, h2]⟩
  · exact ⟨_, _, h1⟩
/-- A box is opened on a new flash. -/
theorem open_bc (w0 W : World) (L : PLay6) (n wear j : Nat) (hD : PFlash W L (newF n wear)) (hn : L.n = n) (hT : ∀ q, L.T q → w0.heap.size ≤ q) (h1 : 1 ≤ n) (h2 : n ≤ 256) (h3 : wear ≤ 10000) (hj : j + 1 < n) (hB : Below w0.heap.size w0 W) (hgf : 1 < w0.heap.size) (hf : Tab w0 1 (fours.map v32)) :
    Calls Tryd.prog 12 #[.pointer (some ⟨L.g, 0, none⟩), .int .i64 (j : Int)] W fun e' W' => ∃ g, e' = .returned (.tuple #[.pointer (some ⟨g, 0, none⟩), .int .i64 0]) ∧ BC w0 W' L g j n 0 (.slice none 0 0) XS.first (newF n wear) ∧ Below W.heap.size W W' := by
  refine (openP L (newF n wear) j w0.heap.size W hD rfl (by rw [hn]; exact hj) (fun wh i hw hi => by rw [blk_new n wear (j + wh) (by omega), cell_ones i hi]) (Nat.lt_of_lt_of_le hgf hB.size) (hf.below hB hgf)).mono ?_
  rintro e' W' ⟨g, rfl, hbx, hg, hb⟩
  exact ⟨g, rfl, ⟨hbx, CB.first n wear j h1 h2 h3 hj, hn, fun q hq => by
    rcases hq with e | e | e
    · exact hT q e
    · have := hB.size; omega
    · cases e⟩, hb⟩
def awkR : RP := ⟨1, 2, 3, 1⟩
theorem awkR_ok : awkR.ok := by decide

set_option maxRecDepth 100000 in
set_option maxHeartbeats 4000000 in
theorem awakeX (w : World) (hgf : 1 < w.heap.size) (hf : Tab w 1 (fours.map v32)) : Calls Tryd.prog 8 #[] w fun e w' => e = .returned (.bool true) ∧ Below w.heap.size w w' := by
  have HN : Hid (Calls Tryd.prog 11 #[.int .i64 3, .int .i64 10] w fun e w' => ∃ L : PLay6, e = .returned (.tuple #[.pointer (some ⟨L.g, 0, none⟩), .int .i64 0]) ∧ L.n = 3 ∧ PFlash w' L (newF 3 10) ∧ Below w.heap.size w w' ∧ (∀ q, L.T q → w.heap.size ≤ q)) := thePF.new_any 3 10 w (by decide) (by decide) (by decide) (by decide)
  go_enter Tryd.func8, Tryd.ntmps8
  go_wp2_with fail
  refine HN.out.mono ?_
  rintro e w1 ⟨L, rfl, hn, hD1, hB1, hT1⟩
  clear HN
  have HO : Hid (Calls Tryd.prog 12 #[.pointer (some ⟨L.g, 0, none⟩), .int .i64 1] w1 fun e' W' => ∃ g, e' = .returned (.tuple #[.pointer (some ⟨g, 0, none⟩), .int .i64 0]) ∧ BC w W' L g 1 3 0 (.slice none 0 0) XS.first (newF 3 10) ∧ Below w1.heap.size w1 W') := open_bc w w1 L 3 10 1 hD1 hn hT1 (by decide) (by decide) (by decide) (by decide) hB1 hgf hf
  clear hD1 hT1 hn
  go_wp2_with fail
  refine HO.out.mono ?_
  rintro e w2 ⟨g, rfl, hC2, hb2⟩
  clear HO
  have hB2 : Below w.heap.size w w2 := hB1.trans (hb2.mono hB1.size)
  have HP : Hid (Calls Tryd.prog 13 #[.pointer (some ⟨g, 0, none⟩), .agg #[.int .i64 1, .int .i64 2, .int .i64 3, .int .i64 1]] w2 fun e' W' => ∃ wv' s', s'.most = (newF 3 10).most ∧ (∀ q, wv'.ownBlock = some q → (Value.slice none 0 0).ownBlock = some q ∨ w2.heap.size ≤ q) ∧ Chg (bT L g (.slice none 0 0)) w2 W' ∧
      ((¬ fullX XS.first ∧ e' = .returned (.tuple #[.int .i64 1, .int .i64 0]) ∧ BC w W' L g 1 3 1 wv' ⟨[] ++ [nextX XS.first awkR], nextX XS.first awkR, false⟩ s') ∨ (fullX XS.first ∧ e' = .returned (.tuple #[.int .i64 0, .int .i64 3]) ∧ BC w W' L g 1 3 0 wv' XS.first s'))) := hC2.put hB2 (by decide) awkR awkR_ok (by decide) (by decide) (by decide) hgf hf
  go_wp2_with fail
  refine HP.out.mono ?_
  rintro e w3 ⟨wv3, s3, _, _, hc3, hcase⟩
  have hB3 := hC2.below hB2 hc3
  rcases hcase with ⟨_, rfl, hC3⟩ | ⟨hf1, _, _⟩
  rotate_left
  · have h2 : (-1 : Int) = 31 := hf1.1
    omega
  clear HP
  have HE : Hid (Calls Tryd.prog 20 #[.pointer (some ⟨g, 0, none⟩)] w3 fun e w' => ∃ v, e = .returned v ∧ QsR w' w3.heap.size v [nextX XS.first awkR] ∧ Below w3.heap.size w3 w') := pendP L s3 g 1 w.heap.size wv3 _ w3 hC3.bx
  clear hC2 hC3 hc3
  go_wp2_with fail
  refine HE.out.mono ?_
  rintro e w4 ⟨v4, rfl, hq4, hb4⟩
  obtain ⟨ao, c, hv⟩ := hq4.shape
  subst hv
  clear hq4 HE
  go_wp2
  go_ret
  exact ⟨rfl, hB3.trans (hb4.mono hB3.size)⟩
end Go.Proofs.YtgoehohadnkpdaaDoor
