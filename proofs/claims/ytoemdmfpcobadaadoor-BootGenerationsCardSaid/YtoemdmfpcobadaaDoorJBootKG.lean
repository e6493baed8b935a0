/-
  What is proved here: a keeper over a flash that keeps its power, as laws hold it: it is opened, saves what may be, and refuses what may not.
  Conditions: the variable fourBits holds the sixteen words.
-/
import Derived.Test.YtoemdmfpcobadaaDoorJBootKept
import Derived.Test.YtoemdmfpcobadaaDoorJBootEq
namespace Go.Proofs.YtoemdmfpcobadaaDoor
open Go.RowKit

theorem exec_eqg9 {a : Act} {o : Oper} {w : World} (t : TypeId) (x y : Operand) (ho : o.op = .binOp .eql t x y t) (u v r : Value) (hx : a.eval x = u) (hy : a.eval y = v) (hg : ∀ w, (eqGuard .eql t x y u v).run Tryd.prog w = .ok () w) (h : ∀ w, (binOp .eql t u v).run Tryd.prog w = .ok r w) : (execOp a.eval o).run Tryd.prog w = .ok (.value r) w := exec_cmp .eql t t x y ho (.inr rfl) u v r hx hy (hg w) (h w)
/-- A keeper and its flash, as a law holds them. -/
structure KG (w W : World) (L : PLay6) (g j n e : Nat) (k : KS) (s : FS) : Prop where
  blk : Blk W g 71 (kpC L j k)
  fl : PFlash W L s
  keeps : Keeps9 s j k
  well : Well s n e
  lay : L.n = n
  own : ∀ q, L.T q → w.heap.size ≤ q
  gw : w.heap.size ≤ g
  gT : ¬ L.T g
/-- A Save. -/
theorem KG.save {w W : World} {L : PLay6} {g j n e : Nat} {k : KS} {s : FS} (h : KG w W L g j n e k s) (hB : Below w.heap.size w W) (hj : j + 1 < n) (he : e < 10000) (r : BR) (hr : r.ok) (hG : k.gen + 1 ≤ 1073741824) (hgf : 1 < w.heap.size) (hf : Tab w 1 (fours.map v32)) :
    Calls Tryd.prog 19 #[.pointer (some ⟨g, 0, none⟩), brV r] W fun e' W' => e' = .returned (.int .i64 0) ∧ ∃ k' s', KG w W' L g j n (e + 1) k' s' ∧ k'.gen = k.gen + 1 ∧ k'.r = r ∧ Chg (kT L g) W W' := by
  obtain ⟨s1, s2, s3, s4, s5⟩ := save_keeps h.well h.keeps hj he r hr hG
  refine (save9_any L s g j k r W h.blk h.gT h.fl (by rw [h.lay]; exact hj) h.keeps.wh (by omega) (Nat.lt_of_lt_of_le hgf hB.size) (hf.below hB hgf) (fun hx => by have := h.own _ hx; omega)).mono ?_
  rintro e' W' ⟨rfl, hb, hfl, hc⟩
  rw [s1]
  exact ⟨rfl, _, _, ⟨hb, hfl, s2, s5, h.lay, h.own, h.gw, h.gT⟩, s3, s4, hc⟩
/-- Opened. -/
theorem open_kg {w W : World} {L : PLay6} {j n e : Nat} {s : FS} {G : Nat} {R : BR} (hfl : PFlash W L s) (hw : Well s n e) (hl : L.n = n) (own : ∀ q, L.T q → w.heap.size ≤ q) (hL : Last9 s j G R) (hE : 0 < G → ∃ wh i : Nat, wh ≤ 1 ∧ i < 32 ∧ decE (plB s (j + wh) i) = some (G, R)) (hB : Below w.heap.size w W) (hj : j + 1 < n) (hgf : 1 < w.heap.size) (hf : Tab w 1 (fours.map v32)) :
    Calls Tryd.prog 9 #[.pointer (some ⟨L.g, 0, none⟩), .int .i64 (j : Int)] W fun e' W' => ∃ g k, e' = .returned (.tuple #[.pointer (some ⟨g, 0, none⟩), .int .i64 0]) ∧ KG w W' L g j n e k s ∧ k.gen = G ∧ k.r = R ∧ Below W.heap.size W W' ∧ W.heap.size ≤ g := by
  obtain ⟨f1, f2, f3⟩ := find_keeps hL hE
  refine (open9_any L s j W hfl (by rw [hl]; exact hj) (Nat.lt_of_lt_of_le hgf hB.size) (hf.below hB hgf)).mono ?_
  rintro e' W' ⟨hb, hx⟩
  rw [if_neg (by rw [hw.up]; decide)] at hx
  obtain ⟨g, rfl, hk, hg⟩ := hx
  exact ⟨g, _, rfl, ⟨hk, thePF.after hfl hb, f1, hw, hl, own, Nat.le_trans hB.size hg, fun h => by have := hfl.lt g h; omega⟩, f2, f3, hb, hg⟩
theorem Keeps9.there {s : FS} {j : Nat} {k : KS} (h : Keeps9 s j k) : 0 < k.gen → ∃ wh i : Nat, wh ≤ 1 ∧ i < 32 ∧ decE (plB s (j + wh) i) = some (k.gen, k.r) := fun h0 => by
  rcases h.at_ with h1 | ⟨i, h1, _, h3⟩
  · omega
  · exact ⟨k.wh, i, h.wh, h1, h3⟩
theorem KG.chg {w W W' : World} {L : PLay6} {g j n e : Nat} {k : KS} {s : FS} {S : Nat → Prop} (h : KG w W L g j n e k s) (hc : Chg S W W') (hS : ∀ q, S q → ¬ L.T q ∧ q ≠ g) : KG w W' L g j n e k s :=
  ⟨h.blk.chg hc (fun hx => (hS g hx).2 rfl), h.fl.chg hc (fun q hq hx => (hS q hx).1 hq), h.keeps, h.well, h.lay, h.own, h.gw, h.gT⟩
/-- What may not be is refused. -/
theorem KG.bad {w W : World} {L : PLay6} {g j n e : Nat} {k : KS} {s : FS} (h : KG w W L g j n e k s) (hB : Below w.heap.size w W) (hj : j + 1 < n) (r : BR) (hr : rightR r = false) (hG : k.gen ≤ 1073741824) (hgf : 1 < w.heap.size) (hf : Tab w 1 (fours.map v32)) :
    Calls Tryd.prog 19 #[.pointer (some ⟨g, 0, none⟩), brV r] W fun e' W' => e' = .returned (.int .i64 1) ∧ KG w W' L g j n e k s ∧ Chg (kT L g) W W' := by
  have hs : saveE k j s r = (1, k, s) := by
    unfold saveE
    rw [h.keeps.br, if_neg (by decide), hr, if_pos rfl]
  refine (save9_any L s g j k r W h.blk h.gT h.fl (by rw [h.lay]; exact hj) h.keeps.wh hG (Nat.lt_of_lt_of_le hgf hB.size) (hf.below hB hgf) (fun hx => by have := h.own _ hx; omega)).mono ?_
  rintro e' W' ⟨rfl, hb, hfl, hc⟩
  rw [hs] at hb hfl ⊢
  exact ⟨rfl, ⟨hb, hfl, h.keeps, h.well, h.lay, h.own, h.gw, h.gT⟩, hc⟩
theorem KG.more {w W : World} {L : PLay6} {g j n e : Nat} {k : KS} {s : FS} (h : KG w W L g j n e k s) : KG w W L g j n (e + 1) k s := ⟨h.blk, h.fl, h.keeps, h.well.more, h.lay, h.own, h.gw, h.gT⟩
end Go.Proofs.YtoemdmfpcobadaaDoor
