/-
  What is proved here: a manifest that came in as a value is three numbers, 32 bytes and a slice of words.
  Conditions: those that each fact names.
-/
import Derived.Test.YthophonofaaafaaDoorJManLaid
import Derived.WideKeyArr2
namespace Go.Proofs.YthophonofaaafaaDoor
open Go.ChangeShapes Go.WideShapes Go.ChangeAt Go.RowKit

theorem words_of (zs : List Int) (h : ∀ n ∈ zs, (Lit.int .u32 n).wf = true) : ∃ l : List (BitVec 32), zs = l.map n32 := by
  induction zs with
  | nil => exact ⟨[], rfl⟩
  | cons z zs ih =>
    obtain ⟨l, rfl⟩ := ih fun n hn => h n (by simp [hn])
    obtain ⟨s, rfl⟩ := word_of z (h z (by simp))
    exact ⟨s :: l, rfl⟩
/-- A slice of words that came in. -/
theorem wds_of {H : Type} {enc : TypeId × Value → H} {W : World} {base : Nat} {held : Bool} {fuel : Nat} {cs : List Value} {x : DataW H × List MemPlace} (hf : DataW.trod enc Tryd.prog W base (fun _ => true) held fuel 25 cs = some x) :
    ∃ (su : Value) (u : List (BitVec 32)), cs = [su] ∧ u.length ≤ maxLen ∧ Wds W su u := by
  rcases open_ints Tryd.underlying25 Tryd.underlying49 (by kernel_rfl) hf with ⟨hcs, _⟩ | ⟨ad, l, c, zs, hcs, _, hl, hm, hz, _, hcell, hwz⟩
  · exact ⟨_, [], hcs, Nat.zero_le _, none, 0, rfl, fun h => by simp at h⟩
  · obtain ⟨ul, rfl⟩ := words_of zs hwz
    have hul : ul.length = c := by simpa using hz
    have hlen : (ul.take l).length = l := by simp; omega
    refine ⟨_, ul.take l, hcs, by rw [hlen]; omega, some ad, c, by rw [hlen], fun h0 => ?_⟩
    rw [hlen] at h0 ⊢
    obtain ⟨b, off, spot⟩ := ad
    have hc := hcell 0 (by simp; omega)
    have hspot : spot = none := by simpa [Addr.add] using World.cell?_spot hc
    subst hspot
    refine ⟨b, off, rfl, hl, fun j hj => ?_, ?_⟩
    · have hj' : j < ul.length := by rw [hlen] at hj; omega
      have := hcell j (by simpa using hj')
      rw [Addr.add_mid] at this
      rw [this]
      simp [hj']
    · have := block_lt_of_cell hc
      simpa [Addr.add_mid] using this
/-- 32 bytes that came in as an array. -/
theorem hash_cells {H : Type} {enc : TypeId × Value → H} {W : World} {base : Nat} {held : Bool} {fuel : Nat} {cs : List Value} {x : DataW H × List MemPlace} (hf : DataW.trod enc Tryd.prog W base (fun _ => true) held fuel 24 cs = some x) :
    ∃ h : List UInt8, h.length = 32 ∧ cs = h.map v8 := by
  obtain ⟨xs, m, _, _, hcl, hxl, hi⟩ := DataW.trod_array Tryd.underlying24 hf
  have c32 : Tryd.prog.cellsOf 24 = 32 := by kernel_rfl
  have c1 : Tryd.prog.cellsOf 5 = 1 := by kernel_rfl
  rw [c32] at hcl
  rw [c1] at hi
  have key : ∀ j, j < 32 → ∃ t : UInt8, cs[j]? = some (v8 t) := fun j hj => by
    have h1 := hi j hj
    rw [List.getElem?_eq_getElem (by omega), Nat.mul_one] at h1
    obtain ⟨z, e, _, wz⟩ := DataW.trod_int Tryd.underlying5 h1
    obtain ⟨t, rfl⟩ := byte_of z wz
    refine ⟨t, ?_⟩
    have : ((cs.drop j).take 1)[0]? = some (v8 t) := by rw [e]; rfl
    simpa [List.getElem?_take, List.getElem?_drop] using this
  refine ⟨(List.range 32).map fun j => if h : j < 32 then Classical.choose (key j h) else 0, by simp, ?_⟩
  apply List.ext_getElem?
  intro j
  rcases Nat.lt_or_ge j 32 with hj | hj
  · rw [Classical.choose_spec (key j hj)]
    simp [hj]
  · rw [List.getElem?_eq_none (by omega), List.getElem?_eq_none (by simp; omega)]
theorem take_oneM {cs : List Value} {k : Nat} {v : Value} (h : (cs.drop k).take 1 = [v]) : cs[k]? = some v := by
  have : ((cs.drop k).take 1)[0]? = some v := by rw [h]; rfl
  simpa [List.getElem?_take, List.getElem?_drop] using this
set_option maxRecDepth 100000 in
/-- A manifest that came in as a value. -/
theorem man_of {H : Type} {enc : TypeId × Value → H} {W : World} {base b0 : Nat} {held : Bool} {r : Reach} {v : Value} {d : DataW H} {ps : List MemPlace} (hv : Value.okWide Tryd.prog W r b0 27 v) (h : DataW.Trod enc Tryd.prog W base (fun _ => true) held 27 v d ps) :
    ∃ (m : MM) (su : Value), v = manV m su ∧ m.h.length = 32 ∧ m.u.length ≤ maxLen ∧ Wds W su m.u := by
  obtain ⟨cs, rfl, hn⟩ := okWide_struct Tryd.underlying27 hv
  obtain ⟨fuel, hf⟩ := h
  have c1 : Tryd.prog.cellsOf 3 = 1 := by kernel_rfl
  have c2 : Tryd.prog.cellsOf 24 = 32 := by kernel_rfl
  have c3 : Tryd.prog.cellsOf 25 = 1 := by kernel_rfl
  have c5 : Tryd.prog.cellsOf 27 = 36 := by kernel_rfl
  obtain ⟨xs, m, _, _, hcl, hxl, hff⟩ := DataW.trod_struct Tryd.underlying27 hf
  have hx5 : xs.length = 5 := hxl
  have hcl' : cs.toList.length = 36 := hcl.trans c5
  have hff' := hff
  generalize hl : cs.toList = l at *
  have e0 : (Value.agg cs).cells.toList = l := hl
  have g0 : DataW.trod enc Tryd.prog W base (fun _ => true) held m 3 ((l.drop 0).take (Tryd.prog.cellsOf 3)) = xs[0]? := by rw [← e0]; exact hff 0 _ rfl
  have g1 : DataW.trod enc Tryd.prog W base (fun _ => true) held m 3 ((l.drop 1).take (Tryd.prog.cellsOf 3)) = xs[1]? := by rw [← e0]; exact hff 1 _ rfl
  have g2 : DataW.trod enc Tryd.prog W base (fun _ => true) held m 3 ((l.drop 2).take (Tryd.prog.cellsOf 3)) = xs[2]? := by rw [← e0]; exact hff 2 _ rfl
  have g3 : DataW.trod enc Tryd.prog W base (fun _ => true) held m 24 ((l.drop 3).take (Tryd.prog.cellsOf 24)) = xs[3]? := by rw [← e0]; exact hff 3 _ rfl
  have g4 : DataW.trod enc Tryd.prog W base (fun _ => true) held m 25 ((l.drop 35).take (Tryd.prog.cellsOf 25)) = xs[4]? := by rw [← e0]; exact hff 4 _ rfl
  rw [c1, List.getElem?_eq_getElem (by omega)] at g0 g1 g2
  rw [c2, List.getElem?_eq_getElem (by omega)] at g3
  rw [c3, List.getElem?_eq_getElem (by omega)] at g4
  obtain ⟨z0, e0, _, w0⟩ := DataW.trod_int Tryd.underlying3 g0
  obtain ⟨z1, e1, _, w1⟩ := DataW.trod_int Tryd.underlying3 g1
  obtain ⟨z2, e2, _, w2⟩ := DataW.trod_int Tryd.underlying3 g2
  obtain ⟨hs, hhl, e3⟩ := hash_cells g3
  obtain ⟨su, u, e4, hu, hw⟩ := wds_of g4
  refine ⟨⟨z0, z1, z2, hs, u⟩, su, ?_, hhl, hu, hw⟩
  have k0 := take_oneM e0
  have k1 := take_oneM e1
  have k2 := take_oneM e2
  have k4 := take_oneM e4
  have e : l = manL ⟨z0, z1, z2, hs, u⟩ su := by
    have d3 : l.drop 3 = hs.map v8 ++ [su] := by
      rw [← List.take_append_drop 32 (l.drop 3), e3, List.drop_drop]
      congr 1
      rw [← e4, List.take_of_length_le (by simp; omega)]
    have t3 : l.take 3 = [.int .i64 z0, .int .i64 z1, .int .i64 z2] := by
      match l, hcl' with
      | a :: b :: c :: t, _ =>
        simp at k0 k1 k2
        simp [k0, k1, k2]
    rw [← List.take_append_drop 3 l, t3, d3]
    rfl
  unfold manV manC
  rw [← e, ← hl]
end Go.Proofs.YthophonofaaafaaDoor
