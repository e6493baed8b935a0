/-
  What is proved here: the document's log: a bank's size and its bytes.
  Conditions: the disk lies in memory.
-/
import Derived.Test.YtojgeahablphbaaJRefWal
import Derived.Test.YtojgeahablphbaaJRefDisk
namespace Go.Proofs.Ytojgeahablphbaa
open Go.RowKit

set_option maxRecDepth 100000 in
theorem half7_any (L : RLay) (s : DS) (w : World) (hD : RDisk w L s) :
    Calls Try.prog 23 #[.pointer (some ⟨L.g, 0, none⟩)] w fun e w' => e = .returned (.int .i64 (halfS s : Int)) ∧ w = w' := by
  obtain ⟨xv, hx, -⟩ := hD.head
  have hn := hD.ok.now
  have h1 := hD.lay.one
  have h2 := hD.lay.max
  unfold RLay.head at hx
  have c0 := hx.cell (j := 0) rfl
  obtain ⟨H, hH⟩ : ∃ H, H = halfS s := ⟨_, rfl⟩
  rw [← hH]
  unfold halfS at hH
  rw [hn] at hH
  have hq : ((L.n : Int) - 2).tdiv 2 = (H : Int) := by
    by_cases h : 2 ≤ L.n
    · rw [Int.tdiv_eq_ediv_of_nonneg (by omega)]; omega
    · have e : L.n = 1 := by omega
      rw [hH, e]
      decide
  have hwr : IntKind.i64.wrap (((L.n : Int) - 2).tdiv 2) = (H : Int) := by rw [hq, IntKind.wrap_i64]; omega
  have hwr2 : IntKind.i64.wrap ((L.n : Int) - 2) = (L.n : Int) - 2 := by rw [IntKind.wrap_i64]; omega
  clear hq hH hn
  go_enter Try.func23, Try.ntmps23
  go_wp2
  go_ret
  exact ⟨rfl, rfl⟩
theorem halfS_le {w : World} {L : RLay} {s : DS} (hD : RDisk w L s) : halfS s ≤ 2047 ∧ sizeS s ≤ 262016 := by
  have hn := hD.ok.now
  have h2 := hD.lay.max
  unfold sizeS halfS
  rw [hn]
  omega
theorem halfS_in {s : DS} {k i : Nat} (hk : k < 2) (hi : i < halfS s) : 2 + k * halfS s + i < s.now.length := by
  unfold halfS at hi ⊢
  obtain rfl | rfl : k = 0 ∨ k = 1 := by omega
  · omega
  · omega

set_option maxRecDepth 100000 in
set_option maxHeartbeats 1000000 in
theorem bank7_any (L : RLay) (s : DS) (k : Nat) (w : World) (hD : RDisk w L s) (hd : s.down = false) (hk : k < 2) :
    Calls Try.prog 25 #[.pointer (some ⟨L.g, 0, none⟩), .int .i64 (k : Int)] w fun e w' => ∃ v, e = .returned v ∧ Own w' w.heap.size v (bankS s k) ∧ Below w.heap.size w w' := by
  obtain ⟨hh, -⟩ := halfS_le hD
  have HH : Hid (Calls Try.prog 23 #[.pointer (some ⟨L.g, 0, none⟩)] w fun e w' => e = .returned (.int .i64 (halfS s : Int)) ∧ w = w') := half7_any L s w hD
  have HIN : Hid (∀ i, i < halfS s → 2 + k * halfS s + i < s.now.length) := fun i hi => halfS_in hk hi
  have HL : Hid (∀ i, (bankTo s k i).length ≤ i * 128) := fun i => by
    induction i with
    | zero => exact Nat.le_refl _
    | succ i ih =>
      show (bankTo s k i ++ _).length ≤ _
      rw [List.length_append]
      have : (s.now.getD (2 + k * halfS s + i) []).length ≤ 128 := by
        rw [List.getD_eq_getElem?_getD]
        cases hg : s.now[2 + k * halfS s + i]? with
        | none => exact Nat.zero_le _
        | some r => exact Nat.le_of_eq (hD.ok.nows r (List.mem_of_getElem? hg))
      omega
  unfold bankS
  have HK : Hid (k < 2) := hk
  generalize hHf : halfS s = H at *
  go_enter Try.func25, Try.ntmps25
  go_wp2_with (go_at_call 23; refine HH.out.mono ?_; rintro e w1 ⟨rfl, rfl⟩)
  go_loopw [5, 7] (fun ov i wr => ∃ I : Nat, i = .int .i64 (I : Int) ∧ I ≤ H ∧ Own wr w.heap.size ov (bankTo s k I) ∧ RDisk wr L s ∧ Below w.heap.size w wr) (fun _ i _ => H - (intOf i).toNat)
  case atStart => exact ⟨0, rfl, Nat.zero_le _, ⟨rfl, .inl ⟨rfl, rfl⟩⟩, hD, Below.refl _ _⟩
  case round =>
    obtain ⟨I, rfl, hI, hO, hDr, hB⟩ := hrel
    by_cases hlt : I < H
    · have i1 : (I : Int) < (H : Int) := by omega
      obtain ⟨P, hP⟩ : ∃ P, P = 2 + k * H + I := ⟨_, rfl⟩
      have hk1 : k * H ≤ 2047 := by
        obtain rfl | rfl : k = 0 ∨ k = 1 := by omega
        · omega
        · omega
      have hin := HIN.out I hlt
      have e1 : IntKind.i64.wrap ((k : Int) * (H : Int)) = ((k * H : Nat) : Int) := by rw [← Int.natCast_mul, IntKind.wrap_i64]; omega
      have e2 : IntKind.i64.wrap (2 + ((k * H : Nat) : Int)) = ((2 + k * H : Nat) : Int) := by rw [IntKind.wrap_i64]; omega
      have e3 : IntKind.i64.wrap (((2 + k * H : Nat) : Int) + (I : Int)) = (P : Int) := by rw [IntKind.wrap_i64]; omega
      have hr : readS s (P : Int) = (s.now.getD (2 + k * H + I) [], 0) := by
        unfold readS
        rw [hd, if_neg (by decide), if_neg (by omega), Int.toNat_natCast, hP]
      have HR : Hid (Calls Try.prog 39 #[.pointer (some ⟨L.g, 0, none⟩), .int .i64 (P : Int)] wr fun e w' => ∃ v, e = .returned (.tuple #[v, .int .i64 0]) ∧ Own w' wr.heap.size v (s.now.getD (2 + k * H + I) []) ∧ Below wr.heap.size wr w') := by
        have := refRead_any L s (P : Int) wr hDr
        rw [hr] at this
        exact this
      have hl1 := HL.out I
      have hl2 := HL.out (I + 1)
      have est : bankTo s k (I + 1) = bankTo s k I ++ s.now.getD (2 + k * H + I) [] := by
        show bankTo s k I ++ s.now.getD (2 + k * halfS s + I) [] = _
        rw [hHf]
      have HST : Hid (bankTo s k (I + 1) = bankTo s k I ++ s.now.getD (2 + k * H + I) []) := est
      rw [est, List.length_append] at hl2
      generalize s.now.getD (2 + k * H + I) [] = row at *
      generalize bankTo s k I = done_ at *
      clear hr est hin hP
      generalize 2 + k * H = B2 at *
      generalize k * H = KH at *
      have hlm : done_.length + row.length ≤ 1000000000 := by omega
      clear hl1 hl2 hk1
      go_wp2_with fail
      refine HR.out.mono ?_
      rintro e w2 ⟨v2, rfl, ho2, hb2⟩
      have hO2 := hO.below hb2 (Nat.le_refl _)
      have hB2 : Below w.heap.size w w2 := hB.trans (hb2.mono hB.size)
      go_wp2_with (at_builtin; refine app_own w2 rfl (.tmp 28) (.tmp 29) rfl w.heap.size _ done_ rfl hO2 v2 row rfl ho2.seg hlm hB2.size ?_; intro v3 w3 ho3 hg3 hv3)
      have hB3 : Below w.heap.size w w3 := below_grown hB2 hg3 hB2.size (fun q hq => (hO2.blocks q hq).1)
      go_roundw
      case rel => exact ⟨I + 1, by go_num, hlt, by rw [HST.out]; exact ho3, hD.after hB3, hB3⟩
      case measure => simp [intOf]; omega
    · have i1 : ¬ (I : Int) < (H : Int) := by omega
      obtain rfl : I = H := by omega
      go_wp2
      go_ret
      exact ⟨_, rfl, hO, hB⟩
end Go.Proofs.Ytojgeahablphbaa
