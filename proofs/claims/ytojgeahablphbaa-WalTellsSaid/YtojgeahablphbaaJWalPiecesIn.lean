/-
  What is proved here: heads and pieces that came in lie in memory.
  Conditions: those that each fact names.
-/
import Derived.Test.YtojgeahablphbaaJDiskLaid
import Derived.Test.YtojgeahablphbaaJWalDisks
namespace Go.Proofs.Ytojgeahablphbaa
open Go.ChangeShapes Go.WideShapes Go.ChangeAt Go.RowKit

instance : Inhabited Pc7 := ⟨⟨0, []⟩⟩
theorem seg_cellsP {H : Type} {enc : TypeId × Value → H} {W : World} {base : Nat} {held : Bool} {fuel : Nat} {cs : List Value} {x : DataW H × List MemPlace} (hf : DataW.trod enc Try.prog W base (fun _ => true) held fuel 22 cs = some x) :
    ∃ v, ∃ bs : List UInt8, cs = [v] ∧ bs.length ≤ maxLen ∧ Seg W v bs := by
  rcases open_ints Try.underlying22 Try.underlying5 (by kernel_rfl) hf with ⟨hcs, _⟩ | ⟨ad, l, c, zs, hcs, _⟩
  · subst hcs
    obtain ⟨bs, h1, h2, h3⟩ := seg_of (a := none) (len := 0) (cap := 0) (by simpa [Value.cells] using hf)
    exact ⟨_, bs, rfl, by rw [h1]; exact h2, h3⟩
  · subst hcs
    obtain ⟨bs, h1, h2, h3⟩ := seg_of (a := some ad) (len := l) (cap := c) (by simpa [Value.cells] using hf)
    exact ⟨_, bs, rfl, by rw [h1]; exact h2, h3⟩
set_option maxRecDepth 100000 in
/-- One piece's cells. -/
theorem piece_cells {H : Type} {enc : TypeId × Value → H} {W : World} {base : Nat} {held : Bool} {fuel : Nat} {cs : List Value} {x : DataW H × List MemPlace} (h : DataW.trod enc Try.prog W base (fun _ => true) held fuel 35 cs = some x) :
    ∃ (a : Pc7) (bv : Value), cs = [.int .i64 a.kind, bv] ∧ Seg W bv a.b ∧ a.b.length ≤ maxLen := by
  have c1 : Try.prog.cellsOf 3 = 1 := by kernel_rfl
  have c2 : Try.prog.cellsOf 22 = 1 := by kernel_rfl
  have c9 : Try.prog.cellsOf 35 = 2 := by kernel_rfl
  obtain ⟨xs, m, _, _, hcl, hxl, hf⟩ := DataW.trod_struct Try.underlying35 h
  have hx5 : xs.length = 2 := hxl
  have hc9 : cs.length = 2 := hcl.trans c9
  have g0 : DataW.trod enc Try.prog W base (fun _ => true) held m 3 ((cs.drop 0).take (Try.prog.cellsOf 3)) = xs[0]? := hf 0 _ rfl
  have g1 : DataW.trod enc Try.prog W base (fun _ => true) held m 22 ((cs.drop 1).take (Try.prog.cellsOf 22)) = xs[1]? := hf 1 _ rfl
  rw [c1, List.getElem?_eq_getElem (by omega)] at g0
  rw [c2, List.getElem?_eq_getElem (by omega)] at g1
  obtain ⟨z0, e0, _, w0⟩ := DataW.trod_int Try.underlying3 g0
  obtain ⟨bv, bs, e1, hb, hbs⟩ := seg_cellsP g1
  refine ⟨⟨z0, bs⟩, bv, ?_, hbs, hb⟩
  match cs, hc9 with
  | [x0, x1], _ =>
    simp at e0 e1
    simp [e0, e1]
theorem cell_atP {W : World} {base : Nat} {b off i k m : Nat} {cs : List Value} {v : Value} (h : W.cells? base ((⟨b, off, none⟩ : Addr).add (i * m)) m = some cs) (hk : k < m) (hv : cs[k]? = some v) : W.cell? ⟨b, off + i * m + k, none⟩ = some v := by
  have := (World.cells?_some h).2.2 k hk
  rw [Addr.add_mid, Addr.add_mid] at this
  rw [this, hv]
set_option maxRecDepth 100000 in
/-- Pieces that came in. -/
theorem pieces7_of {H : Type} {enc : TypeId × Value → H} {W : World} {base : Nat} {held : Bool} {fuel len cap : Nat} {a : Option Addr} {x : DataW H × List MemPlace} (h : DataW.trod enc Try.prog W base (fun _ => true) held fuel 24 (Value.slice a len cap).cells.toList = some x) : ∃ L, Pcs7 W (.slice a len cap) L := by
  have c9 : Try.prog.cellsOf 35 = 2 := by kernel_rfl
  rcases DataW.trod_slice Try.underlying24 h with ⟨hcs, _⟩ | ⟨ad, len', cap', elems, rest, n, _, hcs, _, _, hl, hm, hlen, hel, _, _⟩
  · simp [Value.cells] at hcs
    obtain ⟨rfl, rfl, rfl⟩ := hcs
    exact ⟨[], none, 0, rfl, Nat.zero_le _, fun i b hi => by simp at hi⟩
  · simp [Value.cells] at hcs
    obtain ⟨rfl, rfl, rfl⟩ := hcs
    rw [c9] at hel
    have key : ∀ i, i < len → ∃ b : Pc7, ∃ cs bv, W.cells? base (ad.add (i * 2)) 2 = some cs ∧ cs = [.int .i64 b.kind, bv] ∧ Seg W bv b.b ∧ b.b.length ≤ maxLen := fun i hi => by
      have e := hel i hi
      rw [List.getElem?_eq_getElem (by omega)] at e
      obtain ⟨cs', h1, h2⟩ := Option.bind_eq_some_iff.1 e
      obtain ⟨b, bv, hb, hat⟩ := piece_cells h2
      exact ⟨b, cs', bv, h1, hb, hat⟩
    obtain ⟨F, hF⟩ := Deep.choose_lt (α := Pc7) key
    refine ⟨(List.range len).map F, some ad, cap, by simp, by simp; omega, fun i y hy => ?_⟩
    rw [List.getElem?_map, Option.map_eq_some_iff] at hy
    obtain ⟨i', hi', rfl⟩ := hy
    obtain ⟨hi, hii⟩ := List.getElem?_eq_some_iff.1 hi'
    rw [List.getElem_range] at hii
    subst hii
    obtain ⟨cs, bv, h1, rfl, hat⟩ := hF i (by simpa using hi)
    obtain ⟨q, off, spot⟩ := ad
    obtain ⟨cs0, bv0, h10, rfl, -⟩ := hF 0 (by simp at hi; omega)
    have hspot : spot = none := by
      have := (World.cells?_some h10).2.2 0 (by omega)
      have h2 : ([.int .i64 (F 0).kind, bv0] : List Value)[0]? = some (.int .i64 (F 0).kind) := rfl
      rw [h2] at this
      simpa [Addr.add] using World.cell?_spot this
    subst hspot
    have p0 := cell_atP h1 (k := 0) (by omega) rfl
    exact ⟨q, off, rfl, block_lt_of_cell (a := ⟨q, off + i * 2 + 0, none⟩) p0, p0, bv, cell_atP h1 (k := 1) (by omega) rfl, hat⟩
set_option maxRecDepth 100000 in
/-- Two heads that came in. -/
theorem heads7_of {H : Type} {enc : TypeId × Value → H} {W : World} {base b0 : Nat} {held : Bool} {r : Reach} {v : Value} {d : DataW H} {ps : List MemPlace} (hv : Value.okWide Try.prog W r b0 23 v) (h : DataW.Trod enc Try.prog W base (fun _ => true) held 23 v d ps) :
    ∃ (x y : Value) (X Y : List UInt8), v = .agg #[x, y] ∧ Seg W x X ∧ Seg W y Y ∧ X.length ≤ maxLen ∧ Y.length ≤ maxLen := by
  have hsz : Try.prog.cellsOf 23 = 2 := by kernel_rfl
  obtain ⟨xs, rfl, hn⟩ : ∃ xs : Array Value, v = .agg xs ∧ xs.size = 2 := by
    simp only [Value.okWide, Try.underlying23] at hv
    obtain ⟨cs, h1, h2, _⟩ := hv
    exact ⟨cs, h1, by rw [h2, hsz]⟩
  obtain ⟨fuel, hf⟩ := h
  cases fuel with
  | zero => simp [DataW.trod] at hf
  | succ m =>
    rw [DataW.trod_step] at hf
    unfold DataW.trodStep at hf
    simp only [Try.underlying23, Value.cells] at hf
    rw [if_pos (by rw [hsz]; simpa using hn)] at hf
    simp only [Option.map_eq_some_iff] at hf
    obtain ⟨ys, hy, _⟩ := hf
    obtain ⟨a, b, rfl⟩ : ∃ a b, xs = #[a, b] := by
      match xs, hn with
      | ⟨[a, b]⟩, _ => exact ⟨a, b, rfl⟩
    have hr : List.range 2 = [0, 1] := rfl
    rw [hr] at hy
    rw [List.mapM_cons] at hy
    simp only [bind, Option.bind_eq_some_iff, pure, Option.some.injEq] at hy
    obtain ⟨y0, hy0, ys', hys, _⟩ := hy
    rw [List.mapM_cons] at hys
    simp only [bind, Option.bind_eq_some_iff, pure, Option.some.injEq] at hys
    obtain ⟨y1, hy1, _⟩ := hys
    obtain ⟨v0, B0, e0, l0, s0⟩ := seg_cellsP hy0
    obtain ⟨v1, B1, e1, l1, s1⟩ := seg_cellsP hy1
    have h1 : Try.prog.cellsOf 22 = 1 := by kernel_rfl
    rw [h1] at e0 e1
    simp at e0 e1
    exact ⟨v0, v1, B0, B1, by rw [e0, e1], s0, s1, l0, l1⟩
end Go.Proofs.Ytojgeahablphbaa
