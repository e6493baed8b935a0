/-
  What is proved here: slices of bytes that came in lie in memory as plain data. acts that came in lie in memory as plain data.
  Conditions: those that each fact names.
-/
import Derived.Test.YtojgeahablphbaaGreatRows
import Derived.Test.YtojgeahablphbaaGreatJShaPure
import Derived.ProofKit
import Derived.OpenShut
import Derived.Stop.Joined
import Derived.ChangeOld
import Derived.Deep.Slices
import Derived.Test.YtojgeahablphbaaGreatJDiskActs
namespace Go.Proofs.YtojgeahablphbaaGreat
open Go.ChangeShapes Go.WideShapes Go.ChangeAt Go.RowKit

theorem own : ownKnob Tryz.prog.godebug = none := by kernel_rfl
theorem laidOut : laidOutB Tryz.prog = true := by kernel_rfl
theorem bytes_of (zs : List Int) (h : ∀ n ∈ zs, (Lit.int .u8 n).wf = true) : ∃ l : List UInt8, zs = l.map n8 := by
  induction zs with
  | nil => exact ⟨[], rfl⟩
  | cons z zs ih =>
    obtain ⟨l, rfl⟩ := ih fun n hn => h n (by simp [hn])
    have hz := bounds_u8 (h z (by simp))
    refine ⟨UInt8.ofNat z.toNat :: l, ?_⟩
    simp only [List.map_cons, n8]
    congr 1
    have e : (UInt8.ofNat z.toNat).toNat = z.toNat % 256 := by simp
    rw [e, Nat.mod_eq_of_lt (by omega)]; omega
/-- A slice of bytes that came in. -/
theorem seg_of {H : Type} {enc : TypeId × Value → H} {W : World} {base : Nat} {held : Bool} {fuel len cap : Nat} {a : Option Addr} {x : DataW H × List MemPlace} (hf : DataW.trod enc Tryz.prog W base (fun _ => true) held fuel 33 (Value.slice a len cap).cells.toList = some x) : ∃ bs : List UInt8, bs.length = len ∧ len ≤ maxLen ∧ Seg W (.slice a len cap) bs := by
  rcases open_ints Tryz.underlying33 Tryz.underlying5 (by kernel_rfl) hf with ⟨hcs, _⟩ | ⟨ad, l, c, zs, hcs, _, hl, hm, hz, _, hcell, hwz⟩
  · simp [Value.cells] at hcs
    obtain ⟨rfl, rfl, rfl⟩ := hcs
    exact ⟨[], rfl, Nat.zero_le _, .inl ⟨rfl, none, 0, rfl, fun _ => rfl⟩⟩
  · simp [Value.cells] at hcs
    obtain ⟨rfl, rfl, rfl⟩ := hcs
    obtain ⟨bl, rfl⟩ := bytes_of zs hwz
    have hbl : bl.length = cap := by simpa using hz
    refine ⟨bl.take len, by simp; omega, Nat.le_trans hl hm, ?_⟩
    rcases Nat.eq_zero_or_pos len with h0 | h0
    · subst h0
      exact .inl ⟨by simp, _, cap, rfl, fun h => by cases h⟩
    · obtain ⟨b, off, spot⟩ := ad
      have hc := hcell 0 (by simp; omega)
      have hspot : spot = none := by simpa [Addr.add] using World.cell?_spot hc
      subst hspot
      refine .inr ⟨b, off, cap, by simp; omega, by simp; omega, fun j hj => ?_, ?_⟩
      · have hj' : j < bl.length := by simp at hj; omega
        have := hcell j (by simpa using hj')
        rw [Addr.add_mid] at this
        rw [this]; simp [hj']
      · have := block_lt_of_cell hc
        simpa [Addr.add_mid] using this
end Go.Proofs.YtojgeahablphbaaGreat
namespace Go.Proofs.YtojgeahablphbaaGreat
open Go.ChangeShapes Go.WideShapes Go.ChangeAt Go.RowKit

theorem cell_lt5 {W : World} {b o : Nat} {v : Value} (h : W.cell? ⟨b, o, none⟩ = some v) : b < W.heap.size := block_lt_of_cell (a := ⟨b, o, none⟩) h
theorem seg_cells {H : Type} {enc : TypeId × Value → H} {W : World} {base : Nat} {held : Bool} {fuel : Nat} {cs : List Value} {x : DataW H × List MemPlace} (hf : DataW.trod enc Tryz.prog W base (fun _ => true) held fuel 33 cs = some x) :
    ∃ v, ∃ bs : List UInt8, cs = [v] ∧ bs.length ≤ maxLen ∧ Seg W v bs := by
  rcases open_ints Tryz.underlying33 Tryz.underlying5 (by kernel_rfl) hf with ⟨hcs, _⟩ | ⟨ad, l, c, zs, hcs, _⟩
  · subst hcs
    obtain ⟨bs, h1, h2, h3⟩ := seg_of (a := none) (len := 0) (cap := 0) (by simpa [Value.cells] using hf)
    exact ⟨_, bs, rfl, by rw [h1]; exact h2, h3⟩
  · subst hcs
    obtain ⟨bs, h1, h2, h3⟩ := seg_of (a := some ad) (len := l) (cap := c) (by simpa [Value.cells] using hf)
    exact ⟨_, bs, rfl, by rw [h1]; exact h2, h3⟩
theorem bools_cells {H : Type} {enc : TypeId × Value → H} {W : World} {base : Nat} {held : Bool} {fuel : Nat} {cs : List Value} {x : DataW H × List MemPlace} (h : DataW.trod enc Tryz.prog W base (fun _ => true) held fuel 41 cs = some x) :
    ∃ v, ∃ l : List Bool, cs = [v] ∧ l.length ≤ maxLen ∧ BoolsIn W v l := by
  have c1 : Tryz.prog.cellsOf 4 = 1 := by kernel_rfl
  rcases DataW.trod_slice Tryz.underlying41 h with ⟨rfl, _⟩ | ⟨a, len, cap, elems, rest, n, rfl, rfl, _, _, hl, hm, hlen, hel, _, _⟩
  · exact ⟨_, [], rfl, Nat.zero_le _, none, 0, rfl, fun j b hj => by simp at hj⟩
  · rw [c1] at hel
    have key : ∀ i, i < len → ∃ b : Bool, W.cell? (a.add i) = some (.bool b) := fun i hi => by
      have e := hel i hi
      rw [List.getElem?_eq_getElem (by omega), Nat.mul_one] at e
      obtain ⟨cs', h1, h2⟩ := Option.bind_eq_some_iff.1 e
      obtain ⟨b, e1, _⟩ := DataW.trod_bool Tryz.underlying4 h2
      subst e1
      have := (World.cells?_some h1).2.2 0 (by omega)
      rw [Deep.add_add, Nat.add_zero] at this
      exact ⟨b, this⟩
    obtain ⟨F, hF⟩ := Deep.choose_lt (α := Bool) key
    refine ⟨_, (List.range len).map F, rfl, by simp; omega, some a, cap, by simp, fun j b hj => ?_⟩
    rw [List.getElem?_map, Option.map_eq_some_iff] at hj
    obtain ⟨i', hi', rfl⟩ := hj
    obtain ⟨hi, hii⟩ := List.getElem?_eq_some_iff.1 hi'
    rw [List.getElem_range] at hii
    subst hii
    have hc := hF j (by simpa using hi)
    obtain ⟨q, off, spot⟩ := a
    have hc0 := hF 0 (by simp at hi; omega)
    have hspot : spot = none := by simpa [Addr.add] using World.cell?_spot hc0
    subst hspot
    rw [Addr.add_mid] at hc
    exact ⟨q, off, rfl, cell_lt5 hc, hc⟩
theorem take_one5 {cs : List Value} {k : Nat} {v : Value} (h : (cs.drop k).take 1 = [v]) : cs[k]? = some v := by
  have : ((cs.drop k).take 1)[0]? = some v := by rw [h]; rfl
  simpa [List.getElem?_take, List.getElem?_drop] using this
/-- One act's cells. -/
theorem act_cells {H : Type} {enc : TypeId × Value → H} {W : World} {base : Nat} {held : Bool} {fuel : Nat} {cs : List Value} {x : DataW H × List MemPlace} (h : DataW.trod enc Tryz.prog W base (fun _ => true) held fuel 43 cs = some x) :
    ∃ (a : ActP) (bv sv : Value), cs.length = 5 ∧ cs[0]? = some (.int .i64 a.act) ∧ cs[1]? = some (.int .i64 a.k) ∧ cs[2]? = some (.int .i64 a.n) ∧ cs[3]? = some bv ∧ cs[4]? = some sv ∧ ActAt W bv sv a := by
  have c1 : Tryz.prog.cellsOf 3 = 1 := by kernel_rfl
  have c2 : Tryz.prog.cellsOf 33 = 1 := by kernel_rfl
  have c3 : Tryz.prog.cellsOf 41 = 1 := by kernel_rfl
  have c5 : Tryz.prog.cellsOf 43 = 5 := by kernel_rfl
  obtain ⟨xs, m, _, _, hcl, hxl, hf⟩ := DataW.trod_struct Tryz.underlying43 h
  have hx5 : xs.length = 5 := hxl
  have g0 : DataW.trod enc Tryz.prog W base (fun _ => true) held m 3 ((cs.drop 0).take (Tryz.prog.cellsOf 3)) = xs[0]? := hf 0 _ rfl
  have g1 : DataW.trod enc Tryz.prog W base (fun _ => true) held m 3 ((cs.drop 1).take (Tryz.prog.cellsOf 3)) = xs[1]? := hf 1 _ rfl
  have g2 : DataW.trod enc Tryz.prog W base (fun _ => true) held m 3 ((cs.drop 2).take (Tryz.prog.cellsOf 3)) = xs[2]? := hf 2 _ rfl
  have g3 : DataW.trod enc Tryz.prog W base (fun _ => true) held m 33 ((cs.drop 3).take (Tryz.prog.cellsOf 33)) = xs[3]? := hf 3 _ rfl
  have g4 : DataW.trod enc Tryz.prog W base (fun _ => true) held m 41 ((cs.drop 4).take (Tryz.prog.cellsOf 41)) = xs[4]? := hf 4 _ rfl
  rw [c1, List.getElem?_eq_getElem (by omega)] at g0 g1 g2
  rw [c2, List.getElem?_eq_getElem (by omega)] at g3
  rw [c3, List.getElem?_eq_getElem (by omega)] at g4
  obtain ⟨z0, e0, _⟩ := DataW.trod_int Tryz.underlying3 g0
  obtain ⟨z1, e1, _⟩ := DataW.trod_int Tryz.underlying3 g1
  obtain ⟨z2, e2, _⟩ := DataW.trod_int Tryz.underlying3 g2
  obtain ⟨bv, bs, e3, hb, hbs⟩ := seg_cells g3
  obtain ⟨sv, l, e4, hs, hsl⟩ := bools_cells g4
  exact ⟨⟨z0, z1, z2, bs, l⟩, bv, sv, hcl.trans c5, take_one5 e0, take_one5 e1, take_one5 e2, take_one5 e3, take_one5 e4, ⟨hbs, hb, hsl, hs⟩⟩
theorem cell_at5 {W : World} {base : Nat} {b off i k m : Nat} {cs : List Value} {v : Value} (h : W.cells? base ((⟨b, off, none⟩ : Addr).add (i * m)) m = some cs) (hk : k < m) (hv : cs[k]? = some v) : W.cell? ⟨b, off + i * m + k, none⟩ = some v := by
  have := (World.cells?_some h).2.2 k hk
  rw [Addr.add_mid, Addr.add_mid] at this
  rw [this, hv]
theorem acts_of {H : Type} {enc : TypeId × Value → H} {W : World} {base : Nat} {held : Bool} {fuel len cap : Nat} {a : Option Addr} {x : DataW H × List MemPlace} (h : DataW.trod enc Tryz.prog W base (fun _ => true) held fuel 22 (Value.slice a len cap).cells.toList = some x) : ∃ L, ActsIn W (.slice a len cap) L := by
  have c5 : Tryz.prog.cellsOf 43 = 5 := by kernel_rfl
  rcases DataW.trod_slice Tryz.underlying22 h with ⟨hcs, _⟩ | ⟨ad, len', cap', elems, rest, n, _, hcs, _, _, hl, hm, hlen, hel, _, _⟩
  · simp [Value.cells] at hcs
    obtain ⟨rfl, rfl, rfl⟩ := hcs
    exact ⟨[], none, 0, rfl, Nat.zero_le _, fun i b hi => by simp at hi⟩
  · simp [Value.cells] at hcs
    obtain ⟨rfl, rfl, rfl⟩ := hcs
    rw [c5] at hel
    have key : ∀ i, i < len → ∃ y : ActP, ∃ cs bv sv, W.cells? base (ad.add (i * 5)) 5 = some cs ∧ cs[0]? = some (.int .i64 y.act) ∧ cs[1]? = some (.int .i64 y.k) ∧ cs[2]? = some (.int .i64 y.n) ∧ cs[3]? = some bv ∧ cs[4]? = some sv ∧ ActAt W bv sv y := fun i hi => by
      have e := hel i hi
      rw [List.getElem?_eq_getElem (by omega)] at e
      obtain ⟨cs', h1, h2⟩ := Option.bind_eq_some_iff.1 e
      obtain ⟨y, bv, sv, _, k0, k1, k2, k3, k4, k5⟩ := act_cells h2
      exact ⟨y, cs', bv, sv, h1, k0, k1, k2, k3, k4, k5⟩
    obtain ⟨F, hF⟩ := Deep.choose_lt (α := ActP) key
    refine ⟨(List.range len).map F, some ad, cap, by simp, by simp; omega, fun i y hy => ?_⟩
    rw [List.getElem?_map, Option.map_eq_some_iff] at hy
    obtain ⟨i', hi', rfl⟩ := hy
    obtain ⟨hi, hii⟩ := List.getElem?_eq_some_iff.1 hi'
    rw [List.getElem_range] at hii
    subst hii
    obtain ⟨cs, bv, sv, h1, k0, k1, k2, k3, k4, k5⟩ := hF i (by simpa using hi)
    obtain ⟨q, off, spot⟩ := ad
    obtain ⟨cs0, bv0, sv0, h10, k00, -⟩ := hF 0 (by simp at hi; omega)
    have hspot : spot = none := by
      have := (World.cells?_some h10).2.2 0 (by omega)
      rw [k00] at this
      simpa [Addr.add] using World.cell?_spot this
    subst hspot
    have p0 := cell_at5 h1 (by omega) k0
    have p1 := cell_at5 h1 (by omega) k1
    have p2 := cell_at5 h1 (by omega) k2
    have p3 := cell_at5 h1 (by omega) k3
    have p4 := cell_at5 h1 (by omega) k4
    rw [Nat.mul_comm i 5] at p0 p1 p2 p3 p4
    exact ⟨q, off, rfl, cell_lt5 p0, p0, p1, p2, bv, sv, p3, p4, k5⟩
set_option maxRecDepth 100000 in
/-- An act that came in as a value. -/
theorem act_of {H : Type} {enc : TypeId × Value → H} {W : World} {base b0 : Nat} {held : Bool} {r : Reach} {v : Value} {d : DataW H} {ps : List MemPlace} (hv : Value.okWide Tryz.prog W r b0 43 v) (h : DataW.Trod enc Tryz.prog W base (fun _ => true) held 43 v d ps) :
    ∃ (a : ActP) (bv sv : Value), v = .agg #[.int .i64 a.act, .int .i64 a.k, .int .i64 a.n, bv, sv] ∧ ActAt W bv sv a := by
  obtain ⟨cs, rfl, hn⟩ := okWide_struct Tryz.underlying43 hv
  obtain ⟨fuel, hf⟩ := h
  obtain ⟨a, bv, sv, hl, k0, k1, k2, k3, k4, k5⟩ := act_cells hf
  refine ⟨a, bv, sv, ?_, k5⟩
  have e : cs.toList = [.int .i64 a.act, .int .i64 a.k, .int .i64 a.n, bv, sv] := by
    have hl' : cs.toList.length = 5 := hl
    have k0' : cs.toList[0]? = _ := k0
    have k1' : cs.toList[1]? = _ := k1
    have k2' : cs.toList[2]? = _ := k2
    have k3' : cs.toList[3]? = _ := k3
    have k4' : cs.toList[4]? = _ := k4
    generalize cs.toList = l at *
    match l, hl' with
    | [x0, x1, x2, x3, x4], _ =>
      simp at k0' k1' k2' k3' k4'
      rw [k0', k1', k2', k3', k4']
  rw [show cs = cs.toList.toArray by simp, e]
end Go.Proofs.YtojgeahablphbaaGreat
