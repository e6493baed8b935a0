/-
  What is proved here: a message that came in as a value lies in memory as plain data.
  Conditions: those that each fact names.
-/
import Derived.Test.YtgfcindkfnjeoaaJDiskLaid
import Derived.Test.YtgfcindkfnjeoaaJWireMessP
import Derived.Test.YtgfcindkfnjeoaaJManSmall
import Derived.WideKeyArr2
namespace Go.Proofs.Ytgfcindkfnjeoaa
open Go.ChangeShapes Go.WideShapes Go.ChangeAt Go.RowKit

theorem byte_ofW (z : Int) (h : (Lit.int .u8 z).wf = true) : ∃ t : UInt8, z = n8 t := by
  obtain ⟨l, hl⟩ := bytes_of [z] (fun n hn => by simp at hn; rw [hn]; exact h)
  match l, hl with
  | [t], hl => exact ⟨t, by simpa using hl⟩
theorem word_ofW (z : Int) (h : (Lit.int .u32 z).wf = true) : ∃ s : BitVec 32, z = n32 s := by
  have hz := bounds_u32 h
  refine ⟨BitVec.ofNat 32 z.toNat, ?_⟩
  unfold n32; rw [BitVec.toNat_ofNat, Nat.mod_eq_of_lt (by omega)]; omega
theorem words_ofW (zs : List Int) (h : ∀ n ∈ zs, (Lit.int .u32 n).wf = true) : ∃ l : List (BitVec 32), zs = l.map n32 := by
  induction zs with
  | nil => exact ⟨[], rfl⟩
  | cons z zs ih =>
    obtain ⟨l, rfl⟩ := ih fun n hn => h n (by simp [hn])
    obtain ⟨s, rfl⟩ := word_ofW z (h z (by simp))
    exact ⟨s :: l, rfl⟩
/-- A slice of words that came in. -/
theorem wds_ofW {H : Type} {enc : TypeId × Value → H} {W : World} {base : Nat} {held : Bool} {fuel : Nat} {cs : List Value} {x : DataW H × List MemPlace} (hf : DataW.trod enc Try.prog W base (fun _ => true) held fuel 23 cs = some x) :
    ∃ (su : Value) (u : List (BitVec 32)), cs = [su] ∧ u.length ≤ maxLen ∧ Wds W su u := by
  rcases open_ints Try.underlying23 Try.underlying74 (by kernel_rfl) hf with ⟨hcs, _⟩ | ⟨ad, l, c, zs, hcs, _, hl, hm, hz, _, hcell, hwz⟩
  · exact ⟨_, [], hcs, Nat.zero_le _, none, 0, rfl, fun h => by simp at h⟩
  · obtain ⟨ul, rfl⟩ := words_ofW zs hwz
    have hul : ul.length = c := by simpa using hz
    have hlen : (ul.take l).length = l := by simp; omega
    refine ⟨_, ul.take l, hcs, by rw [hlen]; omega, some ad, c, by rw [hlen], fun h0 => ?_⟩
    rw [hlen] at h0 ⊢
    obtain ⟨b, off, spot⟩ := ad
    have hc := hcell 0 (by simp; omega)
    have hspot : spot = none := by simpa [Addr.add] using World.cell?_spot hc
    subst hspot
    refine ⟨b, off, rfl, hl, fun j hj => ?_, ?_⟩
    · have hj' : j < ul.length := by rw [hlen] at hj; omega
      have := hcell j (by simpa using hj')
      rw [Addr.add_mid] at this
      rw [this]
      simp [hj']
    · have := block_lt_of_cell hc
      simpa [Addr.add_mid] using this
/-- 32 bytes that came in as an array. -/
theorem hash_cellsW {H : Type} {enc : TypeId × Value → H} {W : World} {base : Nat} {held : Bool} {fuel : Nat} {cs : List Value} {x : DataW H × List MemPlace} (hf : DataW.trod enc Try.prog W base (fun _ => true) held fuel 22 cs = some x) :
    ∃ h : List UInt8, h.length = 32 ∧ cs = h.map v8 := by
  obtain ⟨xs, m, _, _, hcl, hxl, hi⟩ := DataW.trod_array Try.underlying22 hf
  have c32 : Try.prog.cellsOf 22 = 32 := by kernel_rfl
  have c1 : Try.prog.cellsOf 5 = 1 := by kernel_rfl
  rw [c32] at hcl
  rw [c1] at hi
  have key : ∀ j, j < 32 → ∃ t : UInt8, cs[j]? = some (v8 t) := fun j hj => by
    have h1 := hi j hj
    rw [List.getElem?_eq_getElem (by omega), Nat.mul_one] at h1
    obtain ⟨z, e, _, wz⟩ := DataW.trod_int Try.underlying5 h1
    obtain ⟨t, rfl⟩ := byte_ofW z wz
    refine ⟨t, ?_⟩
    have : ((cs.drop j).take 1)[0]? = some (v8 t) := by rw [e]; rfl
    simpa [List.getElem?_take, List.getElem?_drop] using this
  refine ⟨(List.range 32).map fun j => if h : j < 32 then Classical.choose (key j h) else 0, by simp, ?_⟩
  apply List.ext_getElem?
  intro j
  rcases Nat.lt_or_ge j 32 with hj | hj
  · rw [Classical.choose_spec (key j hj)]
    simp [hj]
  · rw [List.getElem?_eq_none (by omega), List.getElem?_eq_none (by simp; omega)]
theorem take_oneW {cs : List Value} {k : Nat} {v : Value} (h : (cs.drop k).take 1 = [v]) : cs[k]? = some v := by
  have : ((cs.drop k).take 1)[0]? = some v := by rw [h]; rfl
  simpa [List.getElem?_take, List.getElem?_drop] using this
theorem seg_cellsW {H : Type} {enc : TypeId × Value → H} {W : World} {base : Nat} {held : Bool} {fuel : Nat} {cs : List Value} {x : DataW H × List MemPlace} (hf : DataW.trod enc Try.prog W base (fun _ => true) held fuel 26 cs = some x) :
    ∃ a c, ∃ bs : List UInt8, cs = [.slice a bs.length c] ∧ bs.length ≤ maxLen ∧ Seg W (.slice a bs.length c) bs := by
  rcases open_ints Try.underlying26 Try.underlying5 (by kernel_rfl) hf with ⟨hcs, _⟩ | ⟨ad, l, c, zs, hcs, _⟩
  · subst hcs
    obtain ⟨bs, h1, h2, h3⟩ := seg_of (a := none) (len := 0) (cap := 0) (by simpa [Value.cells] using hf)
    exact ⟨none, 0, bs, by rw [h1], by rw [h1]; exact h2, by rw [h1]; exact h3⟩
  · subst hcs
    obtain ⟨bs, h1, h2, h3⟩ := seg_of (a := some ad) (len := l) (cap := c) (by simpa [Value.cells] using hf)
    exact ⟨some ad, c, bs, by rw [h1], by rw [h1]; exact h2, by rw [h1]; exact h3⟩
set_option maxRecDepth 100000 in
/-- A manifest's cells. -/
theorem man_cellsW {H : Type} {enc : TypeId × Value → H} {W : World} {base : Nat} {held : Bool} {fuel : Nat} {l : List Value} {x : DataW H × List MemPlace} (hf : DataW.trod enc Try.prog W base (fun _ => true) held fuel 25 l = some x) :
    ∃ (m : MM) (ao : Option Addr) (cu : Nat), l = manL m (.slice ao m.u.length cu) ∧ m.h.length = 32 ∧ m.u.length ≤ maxLen ∧ Wds W (.slice ao m.u.length cu) m.u := by
  have c1 : Try.prog.cellsOf 3 = 1 := by kernel_rfl
  have c2 : Try.prog.cellsOf 22 = 32 := by kernel_rfl
  have c3 : Try.prog.cellsOf 23 = 1 := by kernel_rfl
  have c5 : Try.prog.cellsOf 25 = 36 := by kernel_rfl
  obtain ⟨xs, m, _, _, hcl, hxl, hff⟩ := DataW.trod_struct Try.underlying25 hf
  have hx5 : xs.length = 5 := hxl
  have hcl' : l.length = 36 := hcl.trans c5
  have g0 : DataW.trod enc Try.prog W base (fun _ => true) held m 3 ((l.drop 0).take (Try.prog.cellsOf 3)) = xs[0]? := hff 0 _ rfl
  have g1 : DataW.trod enc Try.prog W base (fun _ => true) held m 3 ((l.drop 1).take (Try.prog.cellsOf 3)) = xs[1]? := hff 1 _ rfl
  have g2 : DataW.trod enc Try.prog W base (fun _ => true) held m 3 ((l.drop 2).take (Try.prog.cellsOf 3)) = xs[2]? := hff 2 _ rfl
  have g3 : DataW.trod enc Try.prog W base (fun _ => true) held m 22 ((l.drop 3).take (Try.prog.cellsOf 22)) = xs[3]? := hff 3 _ rfl
  have g4 : DataW.trod enc Try.prog W base (fun _ => true) held m 23 ((l.drop 35).take (Try.prog.cellsOf 23)) = xs[4]? := hff 4 _ rfl
  rw [c1, List.getElem?_eq_getElem (by omega)] at g0 g1 g2
  rw [c2, List.getElem?_eq_getElem (by omega)] at g3
  rw [c3, List.getElem?_eq_getElem (by omega)] at g4
  obtain ⟨z0, e0, _, w0⟩ := DataW.trod_int Try.underlying3 g0
  obtain ⟨z1, e1, _, w1⟩ := DataW.trod_int Try.underlying3 g1
  obtain ⟨z2, e2, _, w2⟩ := DataW.trod_int Try.underlying3 g2
  obtain ⟨hs, hhl, e3⟩ := hash_cellsW g3
  obtain ⟨su, u, e4, hu, hw⟩ := wds_ofW g4
  obtain ⟨ao, cu, hsu⟩ : ∃ ao cu, su = .slice ao u.length cu := by
    obtain ⟨ao, cu, e, _⟩ := hw
    exact ⟨ao, cu, e⟩
  subst hsu
  refine ⟨⟨z0, z1, z2, hs, u⟩, ao, cu, ?_, hhl, hu, hw⟩
  have k0 := take_oneW e0
  have k1 := take_oneW e1
  have k2 := take_oneW e2
  have d3 : l.drop 3 = hs.map v8 ++ [.slice ao u.length cu] := by
    rw [← List.take_append_drop 32 (l.drop 3), e3, List.drop_drop]
    congr 1
    rw [← e4, List.take_of_length_le (by simp; omega)]
  have t3 : l.take 3 = [.int .i64 z0, .int .i64 z1, .int .i64 z2] := by
    match l, hcl' with
    | a :: b :: c :: t, _ =>
      simp at k0 k1 k2
      simp [k0, k1, k2]
  rw [← List.take_append_drop 3 l, t3, d3]
  rfl
set_option maxRecDepth 100000 in
/-- A message that came in as a value. -/
theorem mess_of {H : Type} {enc : TypeId × Value → H} {W : World} {base b0 : Nat} {held : Bool} {r : Reach} {v : Value} {d : DataW H} {ps : List MemPlace} (hv : Value.okWide Try.prog W r b0 28 v) (h : DataW.Trod enc Try.prog W base (fun _ => true) held 28 v d ps) :
    ∃ (x : MS) (ao : Option Addr) (cu : Nat) (ab : Option Addr) (cb : Nat), v = .agg (msA x (manL x.m (.slice ao x.m.u.length cu)) (.slice ab x.b.length cb)) ∧ x.m.h.length = 32 ∧ x.m.u.length ≤ maxLen ∧ Wds W (.slice ao x.m.u.length cu) x.m.u ∧ x.b.length ≤ maxLen ∧ Seg W (.slice ab x.b.length cb) x.b := by
  obtain ⟨cs, rfl, hn⟩ := okWide_struct Try.underlying28 hv
  obtain ⟨fuel, hf⟩ := h
  have c1 : Try.prog.cellsOf 3 = 1 := by kernel_rfl
  have c2 : Try.prog.cellsOf 25 = 36 := by kernel_rfl
  have c3 : Try.prog.cellsOf 26 = 1 := by kernel_rfl
  have c5 : Try.prog.cellsOf 28 = 45 := by kernel_rfl
  obtain ⟨xs, m, _, _, hcl, hxl, hff⟩ := DataW.trod_struct Try.underlying28 hf
  have hx5 : xs.length = 10 := hxl
  have hcl' : cs.toList.length = 45 := hcl.trans c5
  generalize hl : cs.toList = l at *
  have e0 : (Value.agg cs).cells.toList = l := hl
  have g0 : DataW.trod enc Try.prog W base (fun _ => true) held m 3 ((l.drop 0).take (Try.prog.cellsOf 3)) = xs[0]? := by rw [← e0]; exact hff 0 _ rfl
  have g1 : DataW.trod enc Try.prog W base (fun _ => true) held m 3 ((l.drop 1).take (Try.prog.cellsOf 3)) = xs[1]? := by rw [← e0]; exact hff 1 _ rfl
  have g2 : DataW.trod enc Try.prog W base (fun _ => true) held m 3 ((l.drop 2).take (Try.prog.cellsOf 3)) = xs[2]? := by rw [← e0]; exact hff 2 _ rfl
  have g3 : DataW.trod enc Try.prog W base (fun _ => true) held m 3 ((l.drop 3).take (Try.prog.cellsOf 3)) = xs[3]? := by rw [← e0]; exact hff 3 _ rfl
  have g4 : DataW.trod enc Try.prog W base (fun _ => true) held m 3 ((l.drop 4).take (Try.prog.cellsOf 3)) = xs[4]? := by rw [← e0]; exact hff 4 _ rfl
  have g5 : DataW.trod enc Try.prog W base (fun _ => true) held m 3 ((l.drop 5).take (Try.prog.cellsOf 3)) = xs[5]? := by rw [← e0]; exact hff 5 _ rfl
  have g6 : DataW.trod enc Try.prog W base (fun _ => true) held m 3 ((l.drop 6).take (Try.prog.cellsOf 3)) = xs[6]? := by rw [← e0]; exact hff 6 _ rfl
  have g7 : DataW.trod enc Try.prog W base (fun _ => true) held m 3 ((l.drop 7).take (Try.prog.cellsOf 3)) = xs[7]? := by rw [← e0]; exact hff 7 _ rfl
  have g8 : DataW.trod enc Try.prog W base (fun _ => true) held m 25 ((l.drop 8).take (Try.prog.cellsOf 25)) = xs[8]? := by rw [← e0]; exact hff 8 _ rfl
  have g9 : DataW.trod enc Try.prog W base (fun _ => true) held m 26 ((l.drop 44).take (Try.prog.cellsOf 26)) = xs[9]? := by rw [← e0]; exact hff 9 _ rfl
  rw [c1, List.getElem?_eq_getElem (by omega)] at g0 g1 g2 g3 g4 g5 g6 g7
  rw [c2, List.getElem?_eq_getElem (by omega)] at g8
  rw [c3, List.getElem?_eq_getElem (by omega)] at g9
  obtain ⟨z0, y0, _, w0⟩ := DataW.trod_int Try.underlying3 g0
  obtain ⟨z1, y1, _, w1⟩ := DataW.trod_int Try.underlying3 g1
  obtain ⟨z2, y2, _, w2⟩ := DataW.trod_int Try.underlying3 g2
  obtain ⟨z3, y3, _, w3⟩ := DataW.trod_int Try.underlying3 g3
  obtain ⟨z4, y4, _, w4⟩ := DataW.trod_int Try.underlying3 g4
  obtain ⟨z5, y5, _, w5⟩ := DataW.trod_int Try.underlying3 g5
  obtain ⟨z6, y6, _, w6⟩ := DataW.trod_int Try.underlying3 g6
  obtain ⟨z7, y7, _, w7⟩ := DataW.trod_int Try.underlying3 g7
  obtain ⟨mm, ao, cu, e8, hhl, hu, hw⟩ := man_cellsW g8
  obtain ⟨ab, cb, b, e9, hb, hs⟩ := seg_cellsW g9
  refine ⟨⟨z0, z1, z2, z3, z4, z5, z6, z7, mm, b⟩, ao, cu, ab, cb, ?_, hhl, hu, hw, hb, hs⟩
  have k0 := take_oneW y0
  have k1 := take_oneW y1
  have k2 := take_oneW y2
  have k3 := take_oneW y3
  have k4 := take_oneW y4
  have k5 := take_oneW y5
  have k6 := take_oneW y6
  have k7 := take_oneW y7
  have e : l = msL ⟨z0, z1, z2, z3, z4, z5, z6, z7, mm, b⟩ (manL mm (.slice ao mm.u.length cu)) (.slice ab b.length cb) := by
    have d8 : l.drop 8 = manL mm (.slice ao mm.u.length cu) ++ [.slice ab b.length cb] := by
      rw [← List.take_append_drop 36 (l.drop 8), e8, List.drop_drop]
      congr 1
      rw [← e9, List.take_of_length_le (by simp; omega)]
    have t8 : l.take 8 = [.int .i64 z0, .int .i64 z1, .int .i64 z2, .int .i64 z3, .int .i64 z4, .int .i64 z5, .int .i64 z6, .int .i64 z7] := by
      match l, hcl' with
      | a0 :: a1 :: a2 :: a3 :: a4 :: a5 :: a6 :: a7 :: t, _ =>
        simp at k0 k1 k2 k3 k4 k5 k6 k7
        simp [k0, k1, k2, k3, k4, k5, k6, k7]
    rw [← List.take_append_drop 8 l, t8, d8]
    rfl
  unfold msA
  rw [← e, ← hl]
end Go.Proofs.Ytgfcindkfnjeoaa
