/-
  What is proved here: where the listed variable reads as the program's text lays it, its cells hold the sixteen words for four bits; and a slice of bytes, a byte, a word of 32 bits that came in are such. records that came in are five numbers each. a slice of records that came in lies in memory, five numbers each. steps that came in lie in memory, nine cells each.
  Conditions: those that each fact names.
-/
import Derived.Test.YtbdhkkdombdnkaaDoorRows
import Derived.Test.YtbdhkkdombdnkaaDoorJCrcAdd
import Derived.ProofKit
import Derived.LaidMore
import Derived.OpenShut
import Derived.Stop.Joined
import Derived.Lib.LaidTab
import Derived.ChangeOld
import Derived.Test.YtbdhkkdombdnkaaDoorJBootSmall
import Derived.WideKeyArr2
import Derived.Deep.Slices
import Derived.Test.YtbdhkkdombdnkaaDoorJBootPair
namespace Go.Proofs.YtbdhkkdombdnkaaDoor
open Go.ChangeShapes Go.WideShapes Go.ChangeAt Go.RowKit

theorem own : ownKnob Tryd.prog.godebug = none := by kernel_rfl
theorem laidOut : laidOutB Tryd.prog = true := by kernel_rfl
abbrev laid2 : List (String × DataW Unit) := Rows.bootScriptsRow.laid
def nameAt (i : Nat) : String := ((laid2.map (·.1))[i]?).getD default
theorem gFour : Tryd.prog.globalNamed (nameAt 0) = some 1 := by kernel_rfl
theorem tFour : (Tryd.prog.globals[1]?).map (·.type) = some 161 := by kernel_rfl
theorem dFour : (Rows.laid_pennant_crc_fourBits : DataW Unit) = Lib.tabData .u32 (fours.map n32) := by kernel_rfl

/-- The door's own heap meets the condition. -/
theorem door_met (os : Os) (args : Array Value) : laidMetH Tryd.prog laid2 ((World.doorLaid Tryd.prog 400 os).forCall (fun _ _ => 0) ⟨#[], args, []⟩).memory :=
  laidMetH_of_parts3 (fuel := 8) (laidMet_of_run' 8 (by kernel_rfl) (by kernel_rfl)) (by kernel_rfl) (by kernel_rfl)

theorem tab_of {W : World} {g : Nat} {name : String} {cs : Array Value} {l : List (BitVec 32)} (hg : Tryd.prog.globalNamed name = some g) (hv : W.var? Tryd.prog name = some cs) (hc : cs.toList = (l.map n32).map fun z => Value.int .u32 z) : Tab W g (l.map v32) := fun j v h => by
  rw [World.var?_cell hg hv j, ← Array.getElem?_toList, hc, List.map_map]
  exact h

theorem of_laid {W : World} (h : laidMetH Tryd.prog laid2 W) : Tab W 1 (fours.map v32) ∧ 1 < W.heap.size := by
  rw [MakeChecks.laidMetH_plain _ _ _ (by kernel_rfl)] at h
  obtain ⟨ps, ⟨g0, t0, cs0, f0, p0, q0, hg0, ht0, hv0, hd0, _, _⟩, _, _⟩ := h
  obtain rfl := Option.some.inj (gFour.symm.trans hg0)
  obtain rfl := Option.some.inj (tFour.symm.trans ht0)
  rw [dFour] at hd0
  have e0 := Lib.cells_of_tab Tryd.underlying161 Tryd.underlying97 (by kernel_rfl) (by kernel_rfl) hd0
  have T0 := tab_of hg0 hv0 e0
  exact ⟨T0, block_lt_of_cell (T0 0 _ rfl)⟩

theorem bytes_of (zs : List Int) (h : ∀ n ∈ zs, (Lit.int .u8 n).wf = true) : ∃ l : List UInt8, zs = l.map n8 := by
  induction zs with
  | nil => exact ⟨[], rfl⟩
  | cons z zs ih =>
    obtain ⟨l, rfl⟩ := ih fun n hn => h n (by simp [hn])
    have hz := bounds_u8 (h z (by simp))
    refine ⟨UInt8.ofNat z.toNat :: l, ?_⟩
    simp only [List.map_cons, n8]
    congr 1
    have e : (UInt8.ofNat z.toNat).toNat = z.toNat % 256 := by simp
    rw [e, Nat.mod_eq_of_lt (by omega)]; omega
theorem word_of (z : Int) (h : (Lit.int .u32 z).wf = true) : ∃ s : BitVec 32, z = n32 s := by
  have hz := bounds_u32 h
  refine ⟨BitVec.ofNat 32 z.toNat, ?_⟩
  unfold n32; rw [BitVec.toNat_ofNat, Nat.mod_eq_of_lt (by omega)]; omega

/-- A slice of bytes that came in. -/
theorem seg_of {H : Type} {enc : TypeId × Value → H} {W : World} {base : Nat} {held : Bool} {fuel len cap : Nat} {a : Option Addr} {x : DataW H × List MemPlace} (hf : DataW.trod enc Tryd.prog W base (fun _ => true) held fuel 41 (Value.slice a len cap).cells.toList = some x) : ∃ bs : List UInt8, bs.length = len ∧ len ≤ maxLen ∧ Seg W (.slice a len cap) bs := by
  rcases open_ints Tryd.underlying41 Tryd.underlying5 (by kernel_rfl) hf with ⟨hcs, _⟩ | ⟨ad, l, c, zs, hcs, _, hl, hm, hz, _, hcell, hwz⟩
  · simp [Value.cells] at hcs
    obtain ⟨rfl, rfl, rfl⟩ := hcs
    exact ⟨[], rfl, Nat.zero_le _, .inl ⟨rfl, none, 0, rfl, fun _ => rfl⟩⟩
  · simp [Value.cells] at hcs
    obtain ⟨rfl, rfl, rfl⟩ := hcs
    obtain ⟨bl, rfl⟩ := bytes_of zs hwz
    have hbl : bl.length = cap := by simpa using hz
    refine ⟨bl.take len, by simp; omega, Nat.le_trans hl hm, ?_⟩
    rcases Nat.eq_zero_or_pos len with h0 | h0
    · subst h0
      exact .inl ⟨by simp, _, cap, rfl, fun h => by cases h⟩
    · obtain ⟨b, off, spot⟩ := ad
      have hc := hcell 0 (by simp; omega)
      have hspot : spot = none := by simpa [Addr.add] using World.cell?_spot hc
      subst hspot
      refine .inr ⟨b, off, cap, by simp; omega, by simp; omega, fun j hj => ?_, ?_⟩
      · have hj' : j < bl.length := by simp at hj; omega
        have := hcell j (by simpa using hj')
        rw [Addr.add_mid] at this
        rw [this]; simp [hj']
      · have := block_lt_of_cell hc
        simpa [Addr.add_mid] using this

end Go.Proofs.YtbdhkkdombdnkaaDoor
namespace Go.Proofs.YtbdhkkdombdnkaaDoor
open Go.ChangeShapes Go.WideShapes Go.ChangeAt Go.RowKit

theorem arrKeyB : WideMaps.ArrKey Tryd.prog 38 3 2 := ⟨Tryd.underlying38, by kernel_rfl, by kernel_rfl, by kernel_rfl⟩
/-- Five numbers of 64 bits. -/
def BR.wf (b : BR) : Prop := (Lit.int .i64 b.active).wf = true ∧ (Lit.int .i64 b.trial).wf = true ∧ (Lit.int .i64 b.tries).wf = true ∧ (Lit.int .i64 b.v0).wf = true ∧ (Lit.int .i64 b.v1).wf = true
set_option maxRecDepth 100000 in
theorem two_cells9 {H : Type} {enc : TypeId × Value → H} {W : World} {base : Nat} {sp : Nat → Bool} {held : Bool} {fuel : Nat} {cs : List Value} {x : DataW H × List MemPlace} (hl : cs.length = 2) (hf : DataW.trod enc Tryd.prog W base sp held fuel 38 cs = some x) :
    ∃ y z : Int, cs = [.int .i64 y, .int .i64 z] ∧ (Lit.int .i64 y).wf = true ∧ (Lit.int .i64 z).wf = true := by
  cases fuel with
  | zero => simp [DataW.trod] at hf
  | succ m =>
    rw [DataW.trod_step] at hf
    unfold DataW.trodStep at hf
    simp only [arrKeyB.hu] at hf
    rw [if_pos (by rw [arrKeyB.size]; simpa using hl)] at hf
    simp only [Option.map_eq_some_iff] at hf
    obtain ⟨ys, hy, _⟩ := hf
    obtain ⟨a, b, rfl⟩ : ∃ a b, cs = [a, b] := by
      match cs, hl with
      | [a, b], _ => exact ⟨a, b, rfl⟩
    have hr : List.range 2 = [0, 1] := rfl
    rw [hr] at hy
    rw [List.mapM_cons] at hy
    simp only [bind, Option.bind_eq_some_iff, pure, Option.some.injEq] at hy
    obtain ⟨y0, hy0, ys', hys, _⟩ := hy
    rw [List.mapM_cons] at hys
    simp only [bind, Option.bind_eq_some_iff, pure, Option.some.injEq] at hys
    obtain ⟨y1, hy1, _⟩ := hys
    obtain ⟨z0, e0, _, w0⟩ := DataW.trod_int Tryd.underlying3 hy0
    obtain ⟨z1, e1, _, w1⟩ := DataW.trod_int Tryd.underlying3 hy1
    have h1 : Tryd.prog.cellsOf 3 = 1 := arrKeyB.one
    rw [h1] at e0 e1
    simp at e0 e1
    exact ⟨z0, z1, by rw [e0, e1], w0, w1⟩
theorem take_one9 {cs : List Value} {k : Nat} {v : Value} (h : (cs.drop k).take 1 = [v]) : cs[k]? = some v := by
  have : ((cs.drop k).take 1)[0]? = some v := by rw [h]; rfl
  simpa [List.getElem?_take, List.getElem?_drop] using this
set_option maxRecDepth 100000 in
/-- One record's cells. -/
theorem boot_cells {H : Type} {enc : TypeId × Value → H} {W : World} {base : Nat} {held : Bool} {fuel : Nat} {cs : List Value} {x : DataW H × List MemPlace} (h : DataW.trod enc Tryd.prog W base (fun _ => true) held fuel 40 cs = some x) :
    ∃ b : BR, cs = (brL b).toList ∧ b.wf := by
  have c1 : Tryd.prog.cellsOf 3 = 1 := by kernel_rfl
  have c2 : Tryd.prog.cellsOf 38 = 2 := by kernel_rfl
  have c5 : Tryd.prog.cellsOf 40 = 5 := by kernel_rfl
  obtain ⟨xs, m, _, _, hcl, hxl, hf⟩ := DataW.trod_struct Tryd.underlying40 h
  have hx4 : xs.length = 4 := hxl
  have hc5 : cs.length = 5 := hcl.trans c5
  have g0 : DataW.trod enc Tryd.prog W base (fun _ => true) held m 3 ((cs.drop 0).take (Tryd.prog.cellsOf 3)) = xs[0]? := hf 0 _ rfl
  have g1 : DataW.trod enc Tryd.prog W base (fun _ => true) held m 3 ((cs.drop 1).take (Tryd.prog.cellsOf 3)) = xs[1]? := hf 1 _ rfl
  have g2 : DataW.trod enc Tryd.prog W base (fun _ => true) held m 3 ((cs.drop 2).take (Tryd.prog.cellsOf 3)) = xs[2]? := hf 2 _ rfl
  have g3 : DataW.trod enc Tryd.prog W base (fun _ => true) held m 38 ((cs.drop 3).take (Tryd.prog.cellsOf 38)) = xs[3]? := hf 3 _ rfl
  rw [c1, List.getElem?_eq_getElem (by omega)] at g0 g1 g2
  rw [c2, List.getElem?_eq_getElem (by omega)] at g3
  obtain ⟨z0, e0, _, w0⟩ := DataW.trod_int Tryd.underlying3 g0
  obtain ⟨z1, e1, _, w1⟩ := DataW.trod_int Tryd.underlying3 g1
  obtain ⟨z2, e2, _, w2⟩ := DataW.trod_int Tryd.underlying3 g2
  obtain ⟨z3, z4, e3, w3, w4⟩ := two_cells9 (by rw [List.length_take, List.length_drop, hc5]; rfl) g3
  refine ⟨⟨z0, z1, z2, z3, z4⟩, ?_, w0, w1, w2, w3, w4⟩
  have k0 := take_one9 e0
  have k1 := take_one9 e1
  have k2 := take_one9 e2
  match cs, hc5 with
  | [x0, x1, x2, x3, x4], _ =>
    simp at k0 k1 k2 e3
    simp [brL, k0, k1, k2, e3]
set_option maxRecDepth 100000 in
/-- A record that came in as a value. -/
theorem boot_of {H : Type} {enc : TypeId × Value → H} {W : World} {base b0 : Nat} {held : Bool} {r : Reach} {v : Value} {d : DataW H} {ps : List MemPlace} (hv : Value.okWide Tryd.prog W r b0 40 v) (h : DataW.Trod enc Tryd.prog W base (fun _ => true) held 40 v d ps) : ∃ b : BR, v = brV b ∧ b.wf := by
  obtain ⟨cs, rfl, hn⟩ := okWide_struct Tryd.underlying40 hv
  obtain ⟨fuel, hf⟩ := h
  obtain ⟨b, hb, hw⟩ := boot_cells hf
  refine ⟨b, ?_, hw⟩
  have e : cs.toList = (brL b).toList := hb
  unfold brV
  rw [show cs = cs.toList.toArray by simp, e]
end Go.Proofs.YtbdhkkdombdnkaaDoor
namespace Go.Proofs.YtbdhkkdombdnkaaDoor
open Go.ChangeShapes Go.WideShapes Go.ChangeAt Go.RowKit

/-- A slice of records. -/
def Boots (w : World) (v : Value) (l : List BR) : Prop := ∃ ao c, v = .slice ao l.length c ∧ l.length ≤ maxLen ∧ ∀ i b, l[i]? = some b → ∃ g off, ao = some ⟨g, off, none⟩ ∧ g < w.heap.size ∧ ∀ (j : Nat) x, (brL b)[j]? = some x → w.cell? ⟨g, off + i * 5 + j, none⟩ = some x
instance : Inhabited BR := ⟨BR.zero⟩
theorem cell_at9 {W : World} {base : Nat} {b off i k m : Nat} {cs : List Value} {v : Value} (h : W.cells? base ((⟨b, off, none⟩ : Addr).add (i * m)) m = some cs) (hk : k < m) (hv : cs[k]? = some v) : W.cell? ⟨b, off + i * m + k, none⟩ = some v := by
  have := (World.cells?_some h).2.2 k hk
  rw [Addr.add_mid, Addr.add_mid] at this
  rw [this, hv]
set_option maxRecDepth 100000 in
/-- Records that came in. -/
theorem boots_of {H : Type} {enc : TypeId × Value → H} {W : World} {base : Nat} {held : Bool} {fuel len cap : Nat} {a : Option Addr} {x : DataW H × List MemPlace} (h : DataW.trod enc Tryd.prog W base (fun _ => true) held fuel 55 (Value.slice a len cap).cells.toList = some x) : ∃ L, Boots W (.slice a len cap) L := by
  have c5 : Tryd.prog.cellsOf 40 = 5 := by kernel_rfl
  rcases DataW.trod_slice Tryd.underlying55 h with ⟨hcs, _⟩ | ⟨ad, len', cap', elems, rest, n, _, hcs, _, _, hl, hm, hlen, hel, _, _⟩
  · simp [Value.cells] at hcs
    obtain ⟨rfl, rfl, rfl⟩ := hcs
    exact ⟨[], none, 0, rfl, Nat.zero_le _, fun i b hi => by simp at hi⟩
  · simp [Value.cells] at hcs
    obtain ⟨rfl, rfl, rfl⟩ := hcs
    rw [c5] at hel
    have key : ∀ i, i < len → ∃ b : BR, ∃ cs, W.cells? base (ad.add (i * 5)) 5 = some cs ∧ cs = (brL b).toList := fun i hi => by
      have e := hel i hi
      rw [List.getElem?_eq_getElem (by omega)] at e
      obtain ⟨cs', h1, h2⟩ := Option.bind_eq_some_iff.1 e
      obtain ⟨b, hb, _⟩ := boot_cells h2
      exact ⟨b, cs', h1, hb⟩
    obtain ⟨F, hF⟩ := Deep.choose_lt (α := BR) key
    refine ⟨(List.range len).map F, some ad, cap, by simp, by simp; omega, fun i y hy => ?_⟩
    rw [List.getElem?_map, Option.map_eq_some_iff] at hy
    obtain ⟨i', hi', rfl⟩ := hy
    obtain ⟨hi, hii⟩ := List.getElem?_eq_some_iff.1 hi'
    rw [List.getElem_range] at hii
    subst hii
    obtain ⟨cs, h1, rfl⟩ := hF i (by simpa using hi)
    obtain ⟨q, off, spot⟩ := ad
    obtain ⟨cs0, h10, k00⟩ := hF 0 (by simp at hi; omega)
    have hspot : spot = none := by
      have := (World.cells?_some h10).2.2 0 (by omega)
      rw [k00] at this
      have h2 : (brL (F 0)).toList[0]? = some (.int .i64 (F 0).active) := rfl
      rw [h2] at this
      simpa [Addr.add] using World.cell?_spot this
    subst hspot
    have hall : ∀ (j : Nat) x, (brL (F i))[j]? = some x → W.cell? ⟨q, off + i * 5 + j, none⟩ = some x := fun j x hx => by
      have hj : j < 5 := by have := (Array.getElem?_eq_some_iff.1 hx).1; simpa [brL] using this
      exact cell_at9 h1 hj (by rw [Array.getElem?_toList]; exact hx)
    exact ⟨q, off, rfl, block_lt_of_cell (a := ⟨q, off + i * 5 + 0, none⟩) (hall 0 _ rfl), hall⟩
end Go.Proofs.YtbdhkkdombdnkaaDoor
namespace Go.Proofs.YtbdhkkdombdnkaaDoor
open Go.ChangeShapes Go.WideShapes Go.ChangeAt Go.RowKit

instance : Inhabited St9 := ⟨⟨0, BR.zero, 0, 0, []⟩⟩
theorem seg_cells9 {H : Type} {enc : TypeId × Value → H} {W : World} {base : Nat} {held : Bool} {fuel : Nat} {cs : List Value} {x : DataW H × List MemPlace} (hf : DataW.trod enc Tryd.prog W base (fun _ => true) held fuel 41 cs = some x) :
    ∃ v, ∃ bs : List UInt8, cs = [v] ∧ bs.length ≤ maxLen ∧ Seg W v bs := by
  rcases open_ints Tryd.underlying41 Tryd.underlying5 (by kernel_rfl) hf with ⟨hcs, _⟩ | ⟨ad, l, c, zs, hcs, _⟩
  · subst hcs
    obtain ⟨bs, h1, h2, h3⟩ := seg_of (a := none) (len := 0) (cap := 0) (by simpa [Value.cells] using hf)
    exact ⟨_, bs, rfl, by rw [h1]; exact h2, h3⟩
  · subst hcs
    obtain ⟨bs, h1, h2, h3⟩ := seg_of (a := some ad) (len := l) (cap := c) (by simpa [Value.cells] using hf)
    exact ⟨_, bs, rfl, by rw [h1]; exact h2, h3⟩
set_option maxRecDepth 100000 in
/-- One step's cells. -/
theorem step9_cells {H : Type} {enc : TypeId × Value → H} {W : World} {base : Nat} {held : Bool} {fuel : Nat} {cs : List Value} {x : DataW H × List MemPlace} (h : DataW.trod enc Tryd.prog W base (fun _ => true) held fuel 43 cs = some x) :
    ∃ (a : St9) (cv : Value), cs = [.int .i64 a.act, .int .i64 a.b.active, .int .i64 a.b.trial, .int .i64 a.b.tries, .int .i64 a.b.v0, .int .i64 a.b.v1, .int .i64 a.n, .int .i64 a.k, cv] ∧ At9 W cv a := by
  have c1 : Tryd.prog.cellsOf 3 = 1 := by kernel_rfl
  have c2 : Tryd.prog.cellsOf 41 = 1 := by kernel_rfl
  have c5 : Tryd.prog.cellsOf 40 = 5 := by kernel_rfl
  have c9 : Tryd.prog.cellsOf 43 = 9 := by kernel_rfl
  obtain ⟨xs, m, _, _, hcl, hxl, hf⟩ := DataW.trod_struct Tryd.underlying43 h
  have hx5 : xs.length = 5 := hxl
  have hc9 : cs.length = 9 := hcl.trans c9
  have g0 : DataW.trod enc Tryd.prog W base (fun _ => true) held m 3 ((cs.drop 0).take (Tryd.prog.cellsOf 3)) = xs[0]? := hf 0 _ rfl
  have g1 : DataW.trod enc Tryd.prog W base (fun _ => true) held m 40 ((cs.drop 1).take (Tryd.prog.cellsOf 40)) = xs[1]? := hf 1 _ rfl
  have g2 : DataW.trod enc Tryd.prog W base (fun _ => true) held m 3 ((cs.drop 6).take (Tryd.prog.cellsOf 3)) = xs[2]? := hf 2 _ rfl
  have g3 : DataW.trod enc Tryd.prog W base (fun _ => true) held m 3 ((cs.drop 7).take (Tryd.prog.cellsOf 3)) = xs[3]? := hf 3 _ rfl
  have g4 : DataW.trod enc Tryd.prog W base (fun _ => true) held m 41 ((cs.drop 8).take (Tryd.prog.cellsOf 41)) = xs[4]? := hf 4 _ rfl
  rw [c1, List.getElem?_eq_getElem (by omega)] at g0 g2 g3
  rw [c5, List.getElem?_eq_getElem (by omega)] at g1
  rw [c2, List.getElem?_eq_getElem (by omega)] at g4
  obtain ⟨z0, e0, _, w0⟩ := DataW.trod_int Tryd.underlying3 g0
  obtain ⟨b, e1, _⟩ := boot_cells g1
  obtain ⟨z2, e2, _, w2⟩ := DataW.trod_int Tryd.underlying3 g2
  obtain ⟨z3, e3, _, w3⟩ := DataW.trod_int Tryd.underlying3 g3
  obtain ⟨cv, bs, e4, hb, hbs⟩ := seg_cells9 g4
  refine ⟨⟨z0, b, z2, z3, bs⟩, cv, ?_, hbs, hb, bounds_i64 w0, bounds_i64 w2, bounds_i64 w3⟩
  match cs, hc9 with
  | [x0, x1, x2, x3, x4, x5, x6, x7, x8], _ =>
    simp at e0 e2 e3 e4
    simp [brL] at e1
    simp [e0, e1, e2, e3, e4]
set_option maxRecDepth 100000 in
/-- Steps that came in. -/
theorem steps9_of {H : Type} {enc : TypeId × Value → H} {W : World} {base : Nat} {held : Bool} {fuel len cap : Nat} {a : Option Addr} {x : DataW H × List MemPlace} (h : DataW.trod enc Tryd.prog W base (fun _ => true) held fuel 22 (Value.slice a len cap).cells.toList = some x) : ∃ L, Steps9 W (.slice a len cap) L := by
  have c9 : Tryd.prog.cellsOf 43 = 9 := by kernel_rfl
  rcases DataW.trod_slice Tryd.underlying22 h with ⟨hcs, _⟩ | ⟨ad, len', cap', elems, rest, n, _, hcs, _, _, hl, hm, hlen, hel, _, _⟩
  · simp [Value.cells] at hcs
    obtain ⟨rfl, rfl, rfl⟩ := hcs
    exact ⟨[], none, 0, rfl, Nat.zero_le _, fun i b hi => by simp at hi⟩
  · simp [Value.cells] at hcs
    obtain ⟨rfl, rfl, rfl⟩ := hcs
    rw [c9] at hel
    have key : ∀ i, i < len → ∃ b : St9, ∃ cs cv, W.cells? base (ad.add (i * 9)) 9 = some cs ∧ cs = [.int .i64 b.act, .int .i64 b.b.active, .int .i64 b.b.trial, .int .i64 b.b.tries, .int .i64 b.b.v0, .int .i64 b.b.v1, .int .i64 b.n, .int .i64 b.k, cv] ∧ At9 W cv b := fun i hi => by
      have e := hel i hi
      rw [List.getElem?_eq_getElem (by omega)] at e
      obtain ⟨cs', h1, h2⟩ := Option.bind_eq_some_iff.1 e
      obtain ⟨b, cv, hb, hat⟩ := step9_cells h2
      exact ⟨b, cs', cv, h1, hb, hat⟩
    obtain ⟨F, hF⟩ := Deep.choose_lt (α := St9) key
    refine ⟨(List.range len).map F, some ad, cap, by simp, by simp; omega, fun i y hy => ?_⟩
    rw [List.getElem?_map, Option.map_eq_some_iff] at hy
    obtain ⟨i', hi', rfl⟩ := hy
    obtain ⟨hi, hii⟩ := List.getElem?_eq_some_iff.1 hi'
    rw [List.getElem_range] at hii
    subst hii
    obtain ⟨cs, cv, h1, rfl, hat⟩ := hF i (by simpa using hi)
    obtain ⟨q, off, spot⟩ := ad
    obtain ⟨cs0, cv0, h10, rfl, -⟩ := hF 0 (by simp at hi; omega)
    have hspot : spot = none := by
      have := (World.cells?_some h10).2.2 0 (by omega)
      have h2 : ([.int .i64 (F 0).act, .int .i64 (F 0).b.active, .int .i64 (F 0).b.trial, .int .i64 (F 0).b.tries, .int .i64 (F 0).b.v0, .int .i64 (F 0).b.v1, .int .i64 (F 0).n, .int .i64 (F 0).k, cv0] : List Value)[0]? = some (.int .i64 (F 0).act) := rfl
      rw [h2] at this
      simpa [Addr.add] using World.cell?_spot this
    subst hspot
    have p0 := cell_at9 h1 (k := 0) (by omega) rfl
    exact ⟨q, off, rfl, block_lt_of_cell (a := ⟨q, off + i * 9 + 0, none⟩) p0, p0, cell_at9 h1 (k := 1) (by omega) rfl, cell_at9 h1 (k := 2) (by omega) rfl, cell_at9 h1 (k := 3) (by omega) rfl, cell_at9 h1 (k := 4) (by omega) rfl, cell_at9 h1 (k := 5) (by omega) rfl, cell_at9 h1 (k := 6) (by omega) rfl, cell_at9 h1 (k := 7) (by omega) rfl, cv, cell_at9 h1 (k := 8) (by omega) rfl, hat⟩
end Go.Proofs.YtbdhkkdombdnkaaDoor
