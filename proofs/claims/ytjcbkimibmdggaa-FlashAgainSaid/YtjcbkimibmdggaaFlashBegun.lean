/-
  What is proved here: a flash behind some acts; what a flash of four blocks has.
  Conditions: the program's flash keeps to what is asked of it.
-/
import Derived.Test.YtjcbkimibmdggaaFlashAwake
namespace Go.Proofs.Ytjcbkimibmdggaa
open Go.RowKit

theorem Try.info37s : (Try.prog.info? 37).map (·.size) = some 4 := by kernel_rfl
/-- An act's four cells. -/
def actL6 (a : Act6) (bv : Value) : List Value := [.int .i64 a.act, .int .i64 a.k, .int .i64 a.n, bv]
theorem Cells6.range {W : World} {q off : Nat} {a : Act6} (h : Cells6 W q off a) : ∃ bv, W.rangeAt q off (actL6 a bv) ∧ At6 W bv a := by
  obtain ⟨_, h0, h1, h2, bv, h3, h5⟩ := h
  refine ⟨bv, fun j v hj => ?_, h5⟩
  unfold actL6 at hj
  match j, hj with
  | 0, hj => cases hj; exact h0
  | 1, hj => cases hj; exact h1
  | 2, hj => cases hj; exact h2
  | 3, hj => cases hj; exact h3
  | (j + 4), hj => simp at hj
theorem Seg.apart6 {w : World} {v : Value} {bs : List UInt8} {T : Nat → Prop} (h : Seg w v bs) (hT : ∀ q, T q → w.heap.size ≤ q) : 0 < bs.length → ∀ q, v.ownBlock = some q → ¬ T q := fun h0 q hq e => by
  rcases h with ⟨h, _⟩ | ⟨b, off, c', h, _, _, h4⟩
  · rw [h] at h0; cases h0
  · rw [h] at hq; simp [Value.ownBlock] at hq; have := hT q e; omega
/-- Behind so many acts. -/
def goneF (l : List Act6) (I : Nat) (s : FS) : FS := (l.take I).foldl actF s
theorem goneF_step {l : List Act6} {I : Nat} {a : Act6} (s : FS) (h : l[I]? = some a) : actF (goneF l I s) a = goneF l (I + 1) s := by
  unfold goneF
  rw [List.take_add_one, h, List.foldl_append]
  rfl
def begunF (l : List Act6) : FS := powerF (goneF l 100 (newF 4 10000))
theorem goneF_all {l : List Act6} {I : Nat} (s : FS) (h : l.length ≤ I ∨ I = 100) (hI : I ≤ 100) : goneF l I s = goneF l 100 s := by
  rcases h with h | h
  · unfold goneF; rw [List.take_of_length_le h, List.take_of_length_le (by omega)]
  · rw [h]
theorem pair6_new {P : PF} {w3 w4 : World} {L : P.Lay} {M : FLay} {s t : FS} (hD : P.Rel w3 L s) (hb4 : Below w3.heap.size w3 w4) (hR : RFlash w4 M t) (hT : ∀ q, M.T q → w3.heap.size ≤ q) : Pair6 P w4 L M s t :=
  ⟨P.after hD hb4, hR, fun q hq e => by have h1 := P.lt hD q hq; have h2 := hT q e; omega⟩

set_option maxRecDepth 100000 in
set_option maxHeartbeats 4000000 in
theorem begun6_any (P : PF) (v : Value) (l : List Act6) (w : World) (hl : Acts6 w v l) :
    Calls Try.prog 22 #[v] w fun e w' => ∃ L : P.Lay, e = .returned (.pointer (some ⟨P.g L, 0, none⟩)) ∧ P.n L = 4 ∧ P.Rel w' L (begunF l) ∧ Below w.heap.size w w' ∧ (∀ q, P.T L q → w.heap.size ≤ q) := by
  obtain ⟨ao, c, rfl, hlm, hlc⟩ := id hl
  unfold maxLen at hlm
  have HN : Hid (Calls Try.prog 10 #[.int .i64 4, .int .i64 10000] w fun e w' => ∃ L : P.Lay, e = .returned (.tuple #[.pointer (some ⟨P.g L, 0, none⟩), .int .i64 0]) ∧ P.n L = 4 ∧ P.Rel w' L (newF 4 10000) ∧ Below w.heap.size w w' ∧ (∀ q, P.T L q → w.heap.size ≤ q)) := P.new_any 4 10000 w (by decide) (by decide) (by decide) (by decide)
  have HM : Hid (∀ W : World, Calls Try.prog 11 #[.int .i64 4, .int .i64 10000] W fun e w' => ∃ L : FLay, e = .returned (.tuple #[.pointer (some ⟨L.g, 0, none⟩), .int .i64 0]) ∧ L.n = 4 ∧ RFlash w' L (newF 4 10000) ∧ Below W.heap.size W w' ∧ (∀ q, L.T q → W.heap.size ≤ q)) := fun W => ref6New_any 4 10000 W (by decide) (by decide) (by decide) (by decide)
  go_enter Try.func22, Try.ntmps22
  go_wp2_with fail
  refine HN.out.mono ?_
  rintro e w1 ⟨L, rfl, hLn, hD1, hB1, hT1⟩
  go_wp2_with fail
  refine (HM.out w1).mono ?_
  rintro e w2 ⟨M, rfl, -, hR2, hb2, hT2⟩
  have hP2 := pair6_new hD1 hb2 hR2 hT2
  have hB2 : Below w.heap.size w w2 := hB1.trans (hb2.mono hB1.size)
  have hTb : ∀ q, both6 P L M q → w.heap.size ≤ q := fun q hq => by
    rcases hq with hq | hq
    · exact hT1 q hq
    · exact Nat.le_trans hB1.size (hT2 q hq)
  clear HN HM hD1 hR2 hb2 hT2 hB1
  go_wp2_with fail
  go_loopw [7] (fun i wr => ∃ I : Nat, i = .int .i64 (I : Int) ∧ I ≤ l.length ∧ I ≤ 100 ∧ Pair6 P wr L M (goneF l I (newF 4 10000)) (goneF l I (newF 4 10000)) ∧ Below w.heap.size w wr) (fun i _ => 100 - (intOf i).toNat)
  case atStart => exact ⟨0, rfl, Nat.zero_le _, by omega, hP2, hB2⟩
  case round =>
    obtain ⟨I, rfl, hI, hI1, hP, hB⟩ := hrel
    clear hP2 hB2
    by_cases hgo : I < l.length ∧ I < 100
    · obtain ⟨h1, h2⟩ := hgo
      have i1 : (I : Int) < (l.length : Int) := by omega
      have i2 : (I : Int) < 100 := by omega
      have hg : l[I]? = some l[I] := List.getElem?_eq_getElem h1
      obtain ⟨A, hA⟩ : ∃ A, l[I] = A := ⟨_, rfl⟩
      rw [hA] at hg
      clear hA
      obtain ⟨q, off, rfl, hcells⟩ := hlc I A hg
      obtain ⟨bvI, hrg, hat⟩ := hcells.range
      have hq := hcells.1
      have hrgr : wr.rangeAt q (off + I * 4) (actL6 A bvI) := fun j u hu => by
        rw [hB.cell (p := ⟨q, off + I * 4 + j, none⟩) hq, Nat.mul_comm I 4]
        exact hrg j u hu
      have HDO : Hid (Calls Try.prog 14 #[.pointer (some ⟨P.g L, 0, none⟩), .pointer (some ⟨M.g, 0, none⟩), .agg (actL6 A bvI).toArray] wr fun e w' => Tells e (goneF l I (newF 4 10000) = goneF l I (newF 4 10000)) ∧ Pair6 P w' L M (actF (goneF l I (newF 4 10000)) A) (actF (goneF l I (newF 4 10000)) A) ∧ Chg (both6 P L M) wr w') := does6_any P L M _ _ A bvI wr hP (hat.below hB (Nat.le_refl _)) (hat.b.apart6 hTb)
      rw [goneF_step (newF 4 10000) hg] at HDO
      clear hrg hat hcells hlc hg
      go_wp2_with (first | (go_at_call 14; refine HDO.out.mono ?_; rintro e w5 ⟨⟨bb, rfl, -⟩, hP5, hc5⟩) | (refine wpList_load_mid rfl 37 _ rfl q (off + I * 4) rfl (actL6 A bvI) _ hrgr Try.underlying37 rfl Try.info37s ?_))
      have hB5 : Below w.heap.size w w5 := hB.trans (hc5.below hTb hB.size)
      go_roundw
      case rel => exact ⟨I + 1, by go_num, h1, h2, hP5, hB5⟩
      case measure => simp [intOf]; omega
    · have hnt : ¬ ((I : Int) < (l.length : Int) ∧ (I : Int) < 100) := by omega
      have HE : Hid (goneF l I (newF 4 10000) = goneF l 100 (newF 4 10000)) := goneF_all _ (by omega) hI1
      rw [HE.out] at hP
      clear hlc
      by_cases h1 : I < l.length
      · have i1 : (I : Int) < (l.length : Int) := by omega
        have i2 : ¬ (I : Int) < 100 := by omega
        clear hnt hgo
        go_wp2_with fail
        refine (P.power L _ _ hP.p).mono ?_
        rintro e w5 ⟨rfl, hD5, hc5⟩
        go_wp2
        go_ret
        exact ⟨L, rfl, hLn, hD5, hB.trans (hc5.below hT1 hB.size), hT1⟩
      · have i1 : ¬ (I : Int) < (l.length : Int) := by omega
        clear hnt hgo
        go_wp2_with fail
        refine (P.power L _ _ hP.p).mono ?_
        rintro e w5 ⟨rfl, hD5, hc5⟩
        go_wp2
        go_ret
        exact ⟨L, rfl, hLn, hD5, hB.trans (hc5.below hT1 hB.size), hT1⟩

set_option maxRecDepth 100000 in
theorem all6_any (P : PF) (L : P.Lay) (s : FS) (w : World) (hD : P.Rel w L s) :
    Calls Try.prog 24 #[.pointer (some ⟨P.g L, 0, none⟩)] w fun e w' => e = .returned (.string ⟨(readF s 0 4096).1.toArray⟩) ∧ Below w.heap.size w w' := by
  have HA := P.read L s 0 4096 w hD (r64_small _ (by omega) (by omega)) (r64_small _ (by omega) (by omega))
  generalize (readF s 0 4096).1 = BB at *
  generalize (readF s 0 4096).2 = E at *
  have HA' : Hid (Calls Try.prog 20 #[.pointer (some ⟨P.g L, 0, none⟩), .int .i64 0, .int .i64 4096] w fun e w' => ∃ v, e = .returned (.tuple #[v, .int .i64 E]) ∧ Own w' w.heap.size v BB ∧ Below w.heap.size w w') := HA
  clear HA
  go_enter Try.func24, Try.ntmps24
  go_wp2_with fail
  refine HA'.out.mono ?_
  rintro e w1 ⟨v, rfl, ho, hb⟩
  have k1 := seg_stringD ho.seg 9 Try.underlying9
  obtain ⟨a1, c1, rfl⟩ := Seg.shapeD ho.seg
  clear ho
  go_wp2
  go_ret
  exact ⟨rfl, hb⟩
end Go.Proofs.Ytjcbkimibmdggaa
