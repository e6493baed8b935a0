/-
  What is proved here: slices of fields and of values that came in lie in memory as plain data.
  Conditions: those that each fact names.
-/
import Derived.Test.YtjepeonekhhgfaaRows
import Derived.Test.YtjepeonekhhgfaaLawPackFields
import Derived.ProofKit
import Derived.OpenShut
import Derived.Stop.Joined
import Derived.ChangeOld
import Derived.Deep.Slices
namespace Go.Proofs.Ytjepeonekhhgfaa
open Go.ChangeShapes Go.WideShapes Go.ChangeAt Go.RowKit

theorem own : ownKnob Try.prog.godebug = none := by kernel_rfl
theorem laidOut : laidOutB Try.prog = true := by kernel_rfl
theorem bytes_of (zs : List Int) (h : ∀ n ∈ zs, (Lit.int .u8 n).wf = true) : ∃ l : List UInt8, zs = l.map n8 := by
  induction zs with
  | nil => exact ⟨[], rfl⟩
  | cons z zs ih =>
    obtain ⟨l, rfl⟩ := ih fun n hn => h n (by simp [hn])
    have hz := bounds_u8 (h z (by simp))
    refine ⟨UInt8.ofNat z.toNat :: l, ?_⟩
    simp only [List.map_cons, n8]
    congr 1
    have e : (UInt8.ofNat z.toNat).toNat = z.toNat % 256 := by simp
    rw [e, Nat.mod_eq_of_lt (by omega)]; omega
/-- A slice of bytes that came in. -/
theorem seg_of {H : Type} {enc : TypeId × Value → H} {W : World} {base : Nat} {held : Bool} {fuel len cap : Nat} {a : Option Addr} {x : DataW H × List MemPlace} (hf : DataW.trod enc Try.prog W base (fun _ => true) held fuel 29 (Value.slice a len cap).cells.toList = some x) : ∃ bs : List UInt8, bs.length = len ∧ len ≤ maxLen ∧ Seg W (.slice a len cap) bs := by
  rcases open_ints Try.underlying29 Try.underlying5 (by kernel_rfl) hf with ⟨hcs, _⟩ | ⟨ad, l, c, zs, hcs, _, hl, hm, hz, _, hcell, hwz⟩
  · simp [Value.cells] at hcs
    obtain ⟨rfl, rfl, rfl⟩ := hcs
    exact ⟨[], rfl, Nat.zero_le _, .inl ⟨rfl, none, 0, rfl, fun _ => rfl⟩⟩
  · simp [Value.cells] at hcs
    obtain ⟨rfl, rfl, rfl⟩ := hcs
    obtain ⟨bl, rfl⟩ := bytes_of zs hwz
    have hbl : bl.length = cap := by simpa using hz
    refine ⟨bl.take len, by simp; omega, Nat.le_trans hl hm, ?_⟩
    rcases Nat.eq_zero_or_pos len with h0 | h0
    · subst h0
      exact .inl ⟨by simp, _, cap, rfl, fun h => by cases h⟩
    · obtain ⟨b, off, spot⟩ := ad
      have hc := hcell 0 (by simp; omega)
      have hspot : spot = none := by simpa [Addr.add] using World.cell?_spot hc
      subst hspot
      refine .inr ⟨b, off, cap, by simp; omega, by simp; omega, fun j hj => ?_, ?_⟩
      · have hj' : j < bl.length := by simp at hj; omega
        have := hcell j (by simpa using hj')
        rw [Addr.add_mid] at this
        rw [this]; simp [hj']
      · have := block_lt_of_cell hc
        simpa [Addr.add_mid] using this
theorem seg_cells {H : Type} {enc : TypeId × Value → H} {W : World} {base : Nat} {held : Bool} {fuel : Nat} {cs : List Value} {x : DataW H × List MemPlace} (hf : DataW.trod enc Try.prog W base (fun _ => true) held fuel 29 cs = some x) :
    ∃ a n cc, ∃ bs : List UInt8, cs = [.slice a n cc] ∧ bs.length = n ∧ n ≤ maxLen ∧ Seg W (.slice a n cc) bs := by
  rcases open_ints Try.underlying29 Try.underlying5 (by kernel_rfl) hf with ⟨hcs, _⟩ | ⟨ad, l, c, zs, hcs, _⟩
  · subst hcs
    obtain ⟨bs, h⟩ := seg_of (a := none) (len := 0) (cap := 0) (by simpa [Value.cells] using hf)
    exact ⟨none, 0, 0, bs, rfl, h⟩
  · subst hcs
    obtain ⟨bs, h⟩ := seg_of (a := some ad) (len := l) (cap := c) (by simpa [Value.cells] using hf)
    exact ⟨some ad, l, c, bs, rfl, h⟩

theorem FAt.mono {w : World} {F F' : Value → List Fld → Prop} {b off : Nat} {f : Fld} (h : FAt w F b off f) (hF : ∀ v l, F v l → F' v l) : FAt w F' b off f := h.keeps (Keeps.refl w) hF
theorem Flds.succ {w : World} : ∀ (n : Nat) (v : Value) (l : List Fld), Flds w n v l → Flds w (n + 1) v l
  | 0, _, _, ⟨h1, h2⟩ => ⟨none, 0, by rw [h1, h2]; rfl, by rw [h2]; exact Nat.zero_le _, fun h => by rw [h2] at h; cases h⟩
  | n + 1, v, l, ⟨ao, c, h1, h2, h3⟩ => ⟨ao, c, h1, h2, fun h0 => by
      obtain ⟨b, off, h4, h5, h6, h7⟩ := h3 h0
      exact ⟨b, off, h4, h5, h6, fun i f hf => (h7 i f hf).mono (Flds.succ n)⟩⟩
theorem Vals.succ {w : World} : ∀ (n : Nat) (v : Value) (l : List Val), Vals w n v l → Vals w (n + 1) v l
  | 0, _, _, ⟨h1, h2⟩ => ⟨none, 0, by rw [h1, h2]; rfl, by rw [h2]; exact Nat.zero_le _, fun h => by rw [h2] at h; cases h⟩
  | n + 1, v, l, ⟨ao, c, h1, h2, h3⟩ => ⟨ao, c, h1, h2, fun h0 => by
      obtain ⟨b, off, h4, h5, h6, h7⟩ := h3 h0
      exact ⟨b, off, h4, h5, h6, fun i f hf => (h7 i f hf).keeps (Keeps.refl w) (Vals.succ n)⟩⟩
theorem take_one {cs : List Value} {k : Nat} {v : Value} (h : (cs.drop k).take 1 = [v]) : cs[k]? = some v := by
  have : ((cs.drop k).take 1)[0]? = some v := by rw [h]; rfl
  simpa [List.getElem?_take, List.getElem?_drop] using this
theorem cell_at {W : World} {base : Nat} {b off i k m : Nat} {cs : List Value} {v : Value} (h : W.cells? base ((⟨b, off, none⟩ : Addr).add (i * m)) m = some cs) (hk : k < m) (hv : cs[k]? = some v) : W.cell? ⟨b, off + i * m + k, none⟩ = some v := by
  have := (World.cells?_some h).2.2 k hk
  rw [Addr.add_mid, Addr.add_mid] at this
  rw [this, hv]

theorem flds_cells {H : Type} {enc : TypeId × Value → H} {W : World} {base : Nat} {held : Bool} : ∀ (fuel : Nat) (cs : List Value) (x : DataW H × List MemPlace), DataW.trod enc Try.prog W base (fun _ => true) held fuel 22 cs = some x → ∃ v l, cs = [v] ∧ Flds W fuel v l := by
  intro fuel
  induction fuel using Nat.strongRecOn with
  | ind fuel ih =>
  intro cs x h
  have c1 : Try.prog.cellsOf 3 = 1 := by kernel_rfl
  have c2 : Try.prog.cellsOf 39 = 1 := by kernel_rfl
  have c3 : Try.prog.cellsOf 22 = 1 := by kernel_rfl
  have c4 : Try.prog.cellsOf 44 = 4 := by kernel_rfl
  rcases DataW.trod_slice Try.underlying22 h with ⟨rfl, _⟩ | ⟨a, len, cap, elems, rest, n, rfl, rfl, _, _, hl, hm, hlen, hel, _, _⟩
  · refine ⟨_, [], rfl, ?_⟩
    cases fuel with
    | zero => exact ⟨rfl, rfl⟩
    | succ n => exact ⟨none, 0, rfl, Nat.zero_le _, fun h => by cases h⟩
  · rw [c4] at hel
    have key : ∀ i, i < len → ∃ f : Fld, ∃ cs', W.cells? base (a.add (i * 4)) 4 = some cs' ∧ cs'[0]? = some (.int .i64 f.kind) ∧ cs'[1]? = some (.int .u64 (f.min : Int)) ∧ cs'[2]? = some (.int .u64 (f.max : Int)) ∧ (∃ o, cs'[3]? = some o ∧ Flds W n o f.of) ∧ f.min < 18446744073709551616 ∧ f.max < 18446744073709551616 := fun i hi => by
      have e := hel i hi
      rw [List.getElem?_eq_getElem (by omega)] at e
      obtain ⟨cs', h1, h2⟩ := Option.bind_eq_some_iff.1 e
      obtain ⟨xs, m, hmn, _, hcl, hxl, hf⟩ := DataW.trod_struct Try.underlying44 h2
      have hx4 : xs.length = 4 := hxl
      have h0 : DataW.trod enc Try.prog W base (fun _ => true) held m 3 ((cs'.drop 0).take (Try.prog.cellsOf 3)) = xs[0]? := hf 0 _ rfl
      have g1 : DataW.trod enc Try.prog W base (fun _ => true) held m 39 ((cs'.drop 1).take (Try.prog.cellsOf 39)) = xs[1]? := hf 1 _ rfl
      have g2 : DataW.trod enc Try.prog W base (fun _ => true) held m 39 ((cs'.drop 2).take (Try.prog.cellsOf 39)) = xs[2]? := hf 2 _ rfl
      have g3 : DataW.trod enc Try.prog W base (fun _ => true) held m 22 ((cs'.drop 3).take (Try.prog.cellsOf 22)) = xs[3]? := hf 3 _ rfl
      rw [c1, List.getElem?_eq_getElem (by omega)] at h0
      rw [c2, List.getElem?_eq_getElem (by omega)] at g1 g2
      rw [c3, List.getElem?_eq_getElem (by omega)] at g3
      obtain ⟨k, e0, _, w0⟩ := DataW.trod_int Try.underlying3 h0
      obtain ⟨mn, e1, _, w1⟩ := DataW.trod_int Try.underlying39 g1
      obtain ⟨mx, e2, _, w2⟩ := DataW.trod_int Try.underlying39 g2
      obtain ⟨o, lo, e3, hlo⟩ := ih m (by omega) _ _ g3
      have b1 := bounds_u64 w1
      have b2 := bounds_u64 w2
      refine ⟨.mk k mn.toNat mx.toNat lo, cs', h1, take_one e0, ?_, ?_, ⟨o, take_one e3, ?_⟩, ?_, ?_⟩
      · rw [take_one e1]; show some (Value.int .u64 mn) = some (.int .u64 (mn.toNat : Int)); rw [Int.toNat_of_nonneg b1.1]
      · rw [take_one e2]; show some (Value.int .u64 mx) = some (.int .u64 (mx.toNat : Int)); rw [Int.toNat_of_nonneg b2.1]
      · rw [hmn]; exact hlo.succ
      · show mn.toNat < _; omega
      · show mx.toNat < _; omega
    obtain ⟨F, hF⟩ := Deep.choose_lt (α := Fld) key
    refine ⟨_, (List.range len).map F, rfl, some a, cap, by simp, by simp; omega, fun h0 => ?_⟩
    have h0' : 0 < len := by simpa using h0
    obtain ⟨b, off, spot⟩ := a
    have hspot : spot = none := by
      obtain ⟨cs', h1, h2, _⟩ := hF 0 h0'
      have := (World.cells?_some h1).2.2 0 (by omega)
      rw [h2] at this
      simpa [Addr.add] using World.cell?_spot this
    subst hspot
    refine ⟨b, off, rfl, ?_, by simp; omega, fun i f hf => ?_⟩
    · obtain ⟨cs', h1, h2, _⟩ := hF 0 h0'
      exact cell_lt (cell_at h1 (by omega) h2)
    · rw [List.getElem?_map, Option.map_eq_some_iff] at hf
      obtain ⟨i', hi', rfl⟩ := hf
      obtain ⟨hi, hii⟩ := List.getElem?_eq_some_iff.1 hi'
      rw [List.getElem_range] at hii
      subst hii
      obtain ⟨cs', h1, h2, h3, h4, ⟨o, h5, h6⟩, h7, h8⟩ := hF i (by simpa using hi)
      exact ⟨cell_at h1 (by omega) h2, cell_at h1 (by omega) h3, cell_at h1 (by omega) h4, ⟨o, cell_at h1 (by omega) h5, h6⟩, h7, h8⟩
theorem flds_of {H : Type} {enc : TypeId × Value → H} {W : World} {base : Nat} {held : Bool} {fuel len cap : Nat} {a : Option Addr} {x : DataW H × List MemPlace} (hf : DataW.trod enc Try.prog W base (fun _ => true) held fuel 22 (Value.slice a len cap).cells.toList = some x) : ∃ L, FldsIn W (.slice a len cap) L := by
  obtain ⟨v, l, hv, hl⟩ := flds_cells fuel _ _ hf
  simp [Value.cells] at hv
  subst hv
  exact ⟨l, fuel, hl⟩
end Go.Proofs.Ytjepeonekhhgfaa
