/-
  What is proved here: of any two heads and any pieces the statement WalTells answers true: of them both tell the same.
  Conditions: none.
-/
import Derived.Test.YtojgeahablphbaaJWalDisks
import Derived.Test.YtojgeahablphbaaJPWalAt
import Derived.Test.YtojgeahablphbaaJWalSame
import Derived.Test.YtojgeahablphbaaJRefWalOpen
import Derived.Test.YtojgeahablphbaaJRefDiskNew
namespace Go.Proofs.Ytojgeahablphbaa
open Go.RowKit

theorem exec_loadW {a : Act} {o : Oper} {w : World} (ty : TypeId) (x : Operand) (ho : o.op = .load ty x) (hag : ∀ w, (isAgg ty).run Try.prog w = .ok false w)
    (b off : Nat) (hx : a.eval x = .pointer (some ⟨b, off, none⟩)) (v : Value) (hc : w.cell? ⟨b, off, none⟩ = some v) : (execOp a.eval o).run Try.prog w = .ok (.value v) w := by
  unfold execOp
  simp [ho, hx, Instr.loadAt, Instr.sureAddr, loadVar, hag, hc]
theorem goT_recs : ∀ (n : Nat) (t : TS), (goT n t).recs.length ≤ t.recs.length + n
  | 0, t => Nat.le_refl _
  | n + 1, t => by
    unfold goT
    split
    · have h1 := goT_recs n (stepT t)
      have h2 : (stepT t).recs.length ≤ t.recs.length + 1 := by
        unfold stepT
        split
        · simp
        · simp
      omega
    · omega
theorem toldB_recs (b : List UInt8) : (toldB b).2.length ≤ b.length := by
  unfold toldB
  split
  · have := goT_recs b.length ⟨b, [], [], false⟩
    simpa [tellB] using this
  · simp
theorem foundS_recs {w : World} {L : RLay} {s : DS} (hD : RDisk w L s) : (foundS s).2.length ≤ 262016 := by
  unfold foundS
  split
  · simp
  · have h1 := toldB_recs ((bankS s ((thereS s).2.1 % 2)).take (thereS s).2.2)
    have h2 := bankS_len hD ((thereS s).2.1 % 2) (by omega)
    have h3 := (halfS_le hD).2
    rw [List.length_take] at h1
    omega
theorem Gat.rowsV7 {w : World} {base : Nat} {v : Value} {vs : List Value} {rs : List (List UInt8)} (h : Gat w base v vs rs) (hm : rs.length ≤ maxLen) : RowsV w v rs := by
  obtain ⟨h1, h2⟩ := h.own
  rcases h2 with ⟨rfl, e⟩ | ⟨g, cap, cur, rfl, hb, hg, hc, hcm, hcs, ht⟩
  · have e' : rs = [] := List.eq_nil_of_length_eq_zero e
    subst e'
    exact ⟨none, 0, rfl, hm, fun i r hr => by simp at hr⟩
  · refine ⟨_, _, rfl, hm, fun i r hr => ?_⟩
    have hi : i < rs.length := (List.getElem?_eq_some_iff.1 hr).1
    have hiv : i < vs.length := by omega
    refine ⟨g, 0, rfl, Blk.lt (show Blk w g 22 cur from hg), vs[i], ?_, (h.rows i _ r (List.getElem?_eq_getElem hiv) hr).seg⟩
    rw [Nat.zero_add]
    refine Blk.cell (show Blk w g 22 cur from hg) ?_
    have : (cur.toList.take (rs.length * 1))[i]? = some vs[i] := by rw [ht]; exact List.getElem?_eq_getElem hiv
    rw [List.getElem?_take_of_lt (by omega)] at this
    simpa using this
theorem slice_mid7t (ao : Option Addr) (len c lo hi : Nat) (h : lo ≤ hi) (hc : hi ≤ c) (w : World) : (Instr.slice 22 (.slice ao len c) (some (.int .i64 (lo : Int))) (some (.int .i64 (hi : Int))) none).run Try.prog w = .ok (.slice (restD ao c lo) (hi - lo) (c - lo)) w := by
  rw [run_slice_lh w 22 ao len c (by rw [elem_bytesD]; exact Try.underlying22) .i64 .i64 lo hi (by omega) (by omega) (by omega), elem_bytesD, size_byteD]
  simp only [Result.andThen_ok, sliced, Int.toNat_natCast, restD]
theorem seg_mid7t {w : World} {ao : Option Addr} {len c : Nat} {bs : List UInt8} (h : Seg w (.slice ao len c) bs) (lo n : Nat) (hn : lo + n ≤ len) : Seg w (.slice (restD ao c lo) n (c - lo)) ((bs.drop lo).take n) := by
  have h1 := h.dropsD lo (by omega)
  exact (h1.takesD n (by omega)).1
theorem rest_block7 (ao : Option Addr) (l c n m k : Nat) (q : Nat) (h : (Value.slice (restD ao c n) m k).ownBlock = some q) : (Value.slice ao l c).ownBlock = some q := by
  unfold restD at h
  split at h
  · cases ao with
    | none => simp [Value.ownBlock] at h
    | some ad => simpa [Value.ownBlock] using h
  · cases ao with
    | none => simp [Value.ownBlock] at h
    | some ad =>
      have e : (ad.add (n * 1)).block = ad.block := by unfold Addr.add; split <;> rfl
      simp only [Option.map_some, Value.ownBlock, e] at h
      exact h
set_option maxRecDepth 100000 in
set_option maxHeartbeats 16000000 in
theorem walTells_any (h0 h1 v1 v2 : Value) (H0 H1 : List UInt8) (P1 P2 : List Pc7) (w : World) (hh0 : Seg w h0 H0) (hh1 : Seg w h1 H1) (hl0 : H0.length ≤ maxLen) (hl1 : H1.length ≤ maxLen) (hp1 : Pcs7 w v1 P1) (hp2 : Pcs7 w v2 P2) : Calls Try.prog 3 #[.agg #[h0, h1], v1, v2] w fun e w' => e = .returned (.bool true) ∧ Below w.heap.size w w' := by
  obtain ⟨a0, c0, rfl⟩ := Seg.shapeD hh0
  obtain ⟨a1, c1, rfl⟩ := Seg.shapeD hh1
  obtain ⟨o1, d1, rfl, hm1, hq1⟩ := hp1
  obtain ⟨o2, d2, rfl, hm2, hq2⟩ := hp2
  have HQ1 : Hid (∀ (i : Nat) a, P1[i]? = some a → ∃ q off, o1 = some ⟨q, off, none⟩ ∧ PcCells w q (off + i * 2) a) := hq1
  have HQ2 : Hid (∀ (i : Nat) a, P2[i]? = some a → ∃ q off, o2 = some ⟨q, off, none⟩ ∧ PcCells w q (off + i * 2) a) := hq2
  unfold maxLen at hm1 hm2 hl0 hl1
  clear hq1 hq2
  have hbw : Below w.heap.size w (w.alloc (.cells #[.slice a0 H0.length c0, .slice a1 H1.length c1] 23)) := (Below.refl _ w).alloc (Nat.le_refl _) _
  have hX0 : Blk (w.alloc (.cells #[.slice a0 H0.length c0, .slice a1 H1.length c1] 23)) w.heap.size 23 #[.slice a0 H0.length c0, .slice a1 H1.length c1] := Blk.new _ _ _
  go_enter Try.func3, Try.ntmps3
  go_upto_region 1 with fail
  obtain ⟨Bx, hBx⟩ : ∃ Bx, Bx = w.heap.size := ⟨_, rfl⟩
  rw [← hBx] at hX0
  have hBx2 : Bx < (w.alloc (.cells #[.slice a0 H0.length c0, .slice a1 H1.length c1] 23)).heap.size := hX0.lt
  have HBX : Hid (Bx = w.heap.size) := hBx
  rw [← hBx]
  clear hBx
  generalize w.alloc (.cells #[.slice a0 H0.length c0, .slice a1 H1.length c1] 23) = w5 at *
  have HA : Hid (Calls Try.prog 4 #[] w5 fun e w' => e = .returned (.bool true) ∧ Below w5.heap.size w5 w') := awake7_any w5
  have HNW : Hid (∀ W, Calls Try.prog 5 #[.int .i64 42] W fun e w' => ∃ L : PLay, e = .returned (.tuple #[.pointer (some ⟨L.g, 0, none⟩), .int .i64 0]) ∧ OD w' L L.T (newS 42) ∧ Below W.heap.size W w' ∧ (∀ q, L.T q → W.heap.size ≤ q) ∧ L.n = 42) := fun W => od_new 42 W (by omega) (by omega)
  have HNR : Hid (∀ W : World, Calls Try.prog 6 #[.int .i64 42] W fun e w' => ∃ L : RLay, e = .returned (.tuple #[.pointer (some ⟨L.g, 0, none⟩), .int .i64 0]) ∧ L.n = 42 ∧ L.E = (fun q => q < W.heap.size) ∧ RDisk w' L (newS 42) ∧ Below W.heap.size W w' ∧ ∀ q, L.T q → W.heap.size ≤ q) := fun W => refNew_any 42 W (by omega) (by omega) (fun q => q < W.heap.size) (fun _ h => h)
  go_upto_region 4 with (first | (go_at_call 4; refine HA.out.mono ?_; rintro e w6 ⟨rfl, hb6⟩) | (go_at_call 5; refine (HNW.out w6).mono ?_; rintro e w7 ⟨L, rfl, hD7, hb7, hT7, hLn⟩) | (go_at_call 6; refine (HNR.out w7).mono ?_; rintro e w8 ⟨M, rfl, hMn, hME, hR8, hb8, hT8⟩) | fail)
  have hB6 : Below w.heap.size w w6 := hbw.trans (hb6.mono hbw.size)
  have hB7 : Below w.heap.size w w7 := hB6.trans (hb7.mono hB6.size)
  have hB8 : Below w.heap.size w w8 := hB7.trans (hb8.mono hB7.size)
  have hDP : DP7 w w8 L L.T M (fun q => w7.heap.size ≤ q ∧ q < w8.heap.size) (newS 42) := ⟨hD7.after hb8, OR.new hR8 hME hT8, fun q h1 h2 => by have := hD7.lt q h1; omega, fun q h => Nat.le_trans hB6.size (hT7 q h), fun q h => by have := hB7.size; omega, hB8⟩
  have hX8 : Blk w8 Bx 23 #[.slice a0 H0.length c0, .slice a1 H1.length c1] := ((hX0.below hb6 hX0.lt).below hb7 (by have := hb6.size; omega)).below hb8 (by have := hb6.size; have := hb7.size; omega)
  have hTL : Tl7 w w8 L L.T M (fun q => w7.heap.size ≤ q ∧ q < w8.heap.size) (newS 42) Bx 23 #[.slice a0 H0.length c0, .slice a1 H1.length c1] := ⟨hDP, ⟨rfl, rfl⟩, List.length_replicate .., hX8, fun e => by have := hT7 Bx e; have := hb6.size; omega, fun e => by have := hb6.size; have := hb7.size; omega⟩
  clear hDP hB6 hB7 hD7 hb7 hT7 hLn hMn hME hR8 hb8 hT8 hb6 hbw hX0 hBx2 HA HNW HNR
  generalize (fun q => w7.heap.size ≤ q ∧ q < w8.heap.size) = D0 at hTL
  have x0 : w8.cell? ⟨Bx, 0, none⟩ = some (.slice a0 H0.length c0) := hX8.cell (j := 0) rfl
  have x1 : w8.cell? ⟨Bx, 1, none⟩ = some (.slice a1 H1.length c1) := hX8.cell (j := 1) rfl
  clear hX8
  by_cases hg0 : 128 < H0.length
  · have j0 : (128 : Int) < (H0.length : Int) := by omega
    go_wp2_with fail
    go_ret
    exact ⟨rfl, hB8⟩
  have j0 : ¬ (128 : Int) < (H0.length : Int) := by omega
  by_cases hg1 : 128 < H1.length
  · have j1 : (128 : Int) < (H1.length : Int) := by omega
    go_wp2_with fail
    go_ret
    exact ⟨rfl, hB8⟩
  have j1 : ¬ (128 : Int) < (H1.length : Int) := by omega
  go_wp2_with fail
  clear x0 x1 j0 j1 hB8
  have hH0 : H0.length ≤ 1000000 := by omega
  have hH1 : H1.length ≤ 1000000 := by omega
  clear hg0 hg1
  have HH0 : Hid (Seg w (.slice a0 H0.length c0) H0) := hh0
  have HH1 : Hid (Seg w (.slice a1 H1.length c1) H1) := hh1
  clear hh0 hh1
  go_loopw [12] (fun kv wr => ∃ (K : Nat) (C D : Nat → Prop) (s : DS), kv = .int .i64 (K : Int) ∧ K ≤ 2 ∧ Tl7 w wr L C M D s Bx 23 #[.slice a0 H0.length c0, .slice a1 H1.length c1]) (fun kv _ => 2 - (intOf kv).toNat)
  case atStart => exact ⟨0, _, _, _, rfl, by omega, hTL⟩
  case round =>
    clear hTL
    obtain ⟨K, C, D, s, rfl, hK, hT⟩ := hrel
    by_cases hK2 : K = 2
    · subst hK2
      have hsz : sizeS s = 2560 := by unfold sizeS halfS; rw [hT.n]
      have he : openE s = 0 := by unfold openE; rw [if_neg (by omega), hT.c.1]; rfl
      have hfr : (foundS s).2.length ≤ 1000000000000 := by have := foundS_recs hT.d.r.d; omega
      go_upto_region 28 with (first | (go_at_call 10; refine (open_any L C s wr hT.d.p he).mono ?_; rintro e w5 ⟨G, sv, rv, vs, rfl, -, -, ho5, ht5, hb5⟩) | (go_at_call 11; refine (open7_any _ s w5 (hT.d.after hb5).r.d he).mono ?_; rintro e w6 ⟨H, sv2, rv2, vs2, rfl, -, -, ho6, ht6, hb6⟩; have ho5' := ho5.below hb6 (Nat.le_refl _); have ht5' : Gat w6 wr.heap.size rv vs (foundS s).2 := ⟨ownsRow_chg ht5.own (Chg.of_below (S := fun _ => False) hb6 (Nat.le_refl _)) (fun _ _ => id), fun i u r e1 e2 => (ht5.rows i u r e1 e2).below hb6 (Nat.le_refl _)⟩) | (go_at_call 12; refine (same7_any _ _ _ _ w6 (ht5'.rowsV7 (by unfold maxLen; omega)) (ht6.rowsV7 (by unfold maxLen; omega))).mono ?_; rintro e w7 ⟨rfl, hb7⟩) | fail)
      have hB7 : Below w.heap.size w w7 := (((hT.d.after hb5).after hb6).after hb7).b
      have k1 := seg_stringD (ho5'.below hb7 (Nat.le_refl _)).seg 9 Try.underlying9
      have k2 := seg_stringD (ho6.below hb7 (Nat.le_refl _)).seg 9 Try.underlying9
      obtain ⟨a5, c5, hv5⟩ := Seg.shapeD ho5.seg
      obtain ⟨a6, c6, hv6⟩ := Seg.shapeD ho6.seg
      subst hv5 hv6
      have hdd : decide ((foundS s).2 = (foundS s).2) = true := by simp
      clear ho5 ho5' ho6 ht5 ht5' ht6 hb5 hb6 hb7 hT hdd
      generalize (foundS s).1 = FB at *
      generalize (⟨FB.toArray⟩ : ByteArray) = X at k1 k2
      go_wp2_with fail
      go_ret
      exact ⟨rfl, hB7⟩
    by_cases hK0 : K = 0
    · subst hK0
      clear hK2 hK
      rw [show ((0 : Nat) : Int) = 0 from rfl]
      have hix : ∀ V, (Instr.index 33 (.agg #[.slice o1 P1.length d1, .slice o2 P2.length d2]) (.int .i64 0)).run Try.prog V = .ok (.slice o1 P1.length d1) V := fun V => by kernel_rfl
      go_wp2_with fail
      clear hix
      obtain ⟨W0, rfl⟩ : ∃ W0, W0 = wr := ⟨_, rfl⟩
      go_loopw [14, 15] (fun AV iv WI => ∃ (I : Nat) (A : List UInt8), iv = .int .i64 (I : Int) ∧ I ≤ P1.length ∧ I ≤ 40 ∧ Own WI W0.heap.size AV A ∧ A.length ≤ I * 1105 ∧ Below W0.heap.size W0 WI) (fun _ iv _ => 40 - (intOf iv).toNat)
      case atStart => exact ⟨0, [], rfl, Nat.zero_le _, Nat.zero_le _, ⟨rfl, .inl ⟨rfl, rfl⟩⟩, Nat.zero_le _, Below.refl _ _⟩
      case round =>
        obtain ⟨I, A, rfl, hI, hI4, hAo, hAl, hbi⟩ := hrel
        have hTi := hT.after hbi
        obtain ⟨aA, cA, rfl⟩ := Seg.shapeD hAo.seg
        have hBw : Below w.heap.size w wr := hTi.d.b
        by_cases hgo : I < P1.length ∧ I < 40
        · obtain ⟨h1, h2⟩ := hgo
          have i1 : (I : Int) < (P1.length : Int) := by omega
          have i2 : (I : Int) < 40 := by omega
          obtain ⟨pc, hpc⟩ : ∃ pc, P1[I]? = some pc := ⟨_, List.getElem?_eq_getElem h1⟩
          obtain ⟨q, off, rfl, hq, e0, bv, e1, hbs, -⟩ := HQ1.out I pc hpc
          obtain ⟨ab, cb, rfl⟩ := Seg.shapeD hbs
          have HC0 : Hid (∀ V, Below w.heap.size w V → V.cell? ⟨q, off + I * 2, none⟩ = some (.int .i64 pc.kind) ∧ V.cell? ⟨q, off + I * 2 + 1, none⟩ = some (.slice ab pc.b.length cb) ∧ Seg V (.slice ab pc.b.length cb) pc.b) := fun V hV => ⟨by rw [hV.cell (p := ⟨q, off + I * 2, none⟩) hq]; exact e0, by rw [hV.cell (p := ⟨q, off + I * 2 + 1, none⟩) hq]; exact e1, hbs.below hV (Nat.le_refl _)⟩
          have f0 := (HC0.out wr hBw).1
          have f1 := (HC0.out wr hBw).2.1
          have HIX : Hid (∀ V, (Instr.indexAt 24 (.slice (some ⟨q, off, none⟩) P1.length d1) (.int .i64 (I : Int))).run Try.prog V = .ok (.pointer (some ⟨q, off + I * 2, none⟩)) V) := fun V => index_pcs7 q off P1.length d1 I h1 V
          clear hpc e0 e1 hbs hq
          by_cases g1 : 1100 < pc.b.length
          · have k1 : (1100 : Int) < (pc.b.length : Int) := by omega
            go_wp2_with fail
            go_ret
            exact ⟨rfl, hBw⟩
          have k1 : ¬ (1100 : Int) < (pc.b.length : Int) := by omega
          by_cases g2 : pc.kind < 0
          · go_wp2_with fail
            go_ret
            exact ⟨rfl, hBw⟩
          by_cases g3 : 9 < pc.kind
          · go_wp2_with fail
            go_ret
            exact ⟨rfl, hBw⟩
          obtain ⟨kd, hkd⟩ : ∃ kd : Nat, pc.kind = (kd : Int) := ⟨pc.kind.toNat, by omega⟩
          go_upto_region 16 with fail
          have HPC : Hid (∀ V, Below w.heap.size w V → Calls Try.prog 7 #[.int .i64 pc.kind, .slice ab pc.b.length cb] V fun e w' => ∃ v, e = .returned v ∧ Own w' V.heap.size v (pieceB kd pc.b) ∧ Below V.heap.size V w') := fun V hV => by rw [hkd]; exact piece7_any kd _ pc.b V (by omega) (HC0.out V hV).2.2 (by omega)
          have hpl : (pieceB kd pc.b).length = pc.b.length + 5 := by rw [pieceB_len]
          clear f0 f1 hkd g2 g3 k1
          have hX0 : Below w.heap.size w wr.drew := hBw.drew
          refine held_begin (fun V => Below w.heap.size w V) (by kernel_rfl) ?_
          refine held_take 0 105 _ (.slice aA A.length cA) rfl rfl (by kernel_rfl) (by kernel_rfl) (by kernel_rfl) rfl hX0 (fun _ _ => rfl) ?_
          simp only [Act.put, List.setIfInBounds_toArray, List.set_cons_succ, List.set_cons_zero]
          refine held_take 1 106 _ (.slice (some ⟨q, off, none⟩) P1.length d1) rfl rfl (by kernel_rfl) (by kernel_rfl) (by kernel_rfl) rfl hX0 (fun _ _ => rfl) ?_
          simp only [Act.put, List.setIfInBounds_toArray, List.set_cons_succ, List.set_cons_zero]
          refine held_take 2 107 _ (.int .i64 (I : Int)) rfl rfl (by kernel_rfl) (by kernel_rfl) (by kernel_rfl) rfl hX0 (fun _ _ => rfl) ?_
          simp only [Act.put, List.setIfInBounds_toArray, List.set_cons_succ, List.set_cons_zero]
          refine held_take 3 108 _ (.pointer (some ⟨q, off + I * 2, none⟩)) rfl rfl (by kernel_rfl) (by kernel_rfl) (by kernel_rfl) rfl hX0 (fun V _ => exec_indexat 24 _ _ rfl (.slice (some ⟨q, off, none⟩) P1.length d1) (.int .i64 (I : Int)) _ rfl rfl (HIX.out V)) ?_
          simp only [Act.put, List.setIfInBounds_toArray, List.set_cons_succ, List.set_cons_zero]
          refine held_take 4 109 _ (.pointer (some ⟨q, off + I * 2, none⟩)) rfl rfl (by kernel_rfl) (by kernel_rfl) (by kernel_rfl) rfl hX0 (fun _ _ => rfl) ?_
          simp only [Act.put, List.setIfInBounds_toArray, List.set_cons_succ, List.set_cons_zero]
          refine held_take 5 110 _ (.int .i64 pc.kind) rfl rfl (by kernel_rfl) (by kernel_rfl) (by kernel_rfl) rfl hX0 (fun V hV => exec_loadW 3 _ rfl (fun _ => by kernel_rfl) q (off + I * 2) rfl _ (HC0.out V hV).1) ?_
          simp only [Act.put, List.setIfInBounds_toArray, List.set_cons_succ, List.set_cons_zero]
          refine held_take 6 111 _ (.slice (some ⟨q, off, none⟩) P1.length d1) rfl rfl (by kernel_rfl) (by kernel_rfl) (by kernel_rfl) rfl hX0 (fun _ _ => rfl) ?_
          simp only [Act.put, List.setIfInBounds_toArray, List.set_cons_succ, List.set_cons_zero]
          refine held_take 7 112 _ (.int .i64 (I : Int)) rfl rfl (by kernel_rfl) (by kernel_rfl) (by kernel_rfl) rfl hX0 (fun _ _ => rfl) ?_
          simp only [Act.put, List.setIfInBounds_toArray, List.set_cons_succ, List.set_cons_zero]
          refine held_take 8 113 _ (.pointer (some ⟨q, off + I * 2, none⟩)) rfl rfl (by kernel_rfl) (by kernel_rfl) (by kernel_rfl) rfl hX0 (fun V _ => exec_indexat 24 _ _ rfl (.slice (some ⟨q, off, none⟩) P1.length d1) (.int .i64 (I : Int)) _ rfl rfl (HIX.out V)) ?_
          simp only [Act.put, List.setIfInBounds_toArray, List.set_cons_succ, List.set_cons_zero]
          refine held_take 9 114 _ (.pointer (some ⟨q, off + I * 2 + 1, none⟩)) rfl rfl (by kernel_rfl) (by kernel_rfl) (by kernel_rfl) rfl hX0 (fun _ _ => rfl) ?_
          simp only [Act.put, List.setIfInBounds_toArray, List.set_cons_succ, List.set_cons_zero]
          refine held_take 10 115 _ (.slice ab pc.b.length cb) rfl rfl (by kernel_rfl) (by kernel_rfl) (by kernel_rfl) rfl hX0 (fun V hV => exec_loadW 22 _ rfl (fun _ => by kernel_rfl) q (off + I * 2 + 1) rfl _ (HC0.out V hV).2.1) ?_
          simp only [Act.put, List.setIfInBounds_toArray, List.set_cons_succ, List.set_cons_zero]
          refine held_all1 11 (by kernel_rfl) (op_call 11 116 _ 7 #[.int .i64 pc.kind, .slice ab pc.b.length cb] rfl rfl rfl (exec_two8 7 _ _ _ rfl _ _ rfl rfl Try.call7) ((HPC.out _ hX0).mono ?_))
          rintro e w9 ⟨v5, rfl, ho5, hb5⟩
          have hX9 : Below w.heap.size w w9 := hX0.trans (hb5.mono hX0.size)
          have hb9 : Below W0.heap.size W0 w9 := hbi.drew.trans (hb5.mono hbi.size)
          obtain ⟨v6', w10, hr10, ho10, hg10, hv10⟩ := app_bytes w9 W0.heap.size (.slice aA A.length cA) A (hAo.below ((Below.refl _ _).drew.trans (hb5.mono (Nat.le_refl _))) (Nat.le_refl _)) v5 (pieceB kd pc.b) ho5.seg (by omega) hb9.size
          have hb10 : Below W0.heap.size W0 w10 := below_grown hb9 hg10 hb9.size (fun q hq => (hAo.blocks q hq).1)
          have hX10 : Below w.heap.size w w10 := hT.d.b.trans (hb10.mono hT.d.b.size)
          refine ⟨_, rfl, hX9, ?_⟩
          simp only [Act.put, List.setIfInBounds_toArray, List.set_cons_succ, List.set_cons_zero]
          refine held_all1 12 (by kernel_rfl) (op_value 12 117 _ (v6') w10 rfl rfl rfl (exec_app _ _ _ _ rfl _ _ _ rfl rfl hr10) ⟨hX10, ?_⟩)
          simp only [Act.put, List.setIfInBounds_toArray, List.set_cons_succ, List.set_cons_zero]
          refine held_take 13 14 _ (v6') rfl rfl (by kernel_rfl) (by kernel_rfl) (by kernel_rfl) rfl hX10 (fun _ _ => rfl) ?_
          simp only [Act.put, List.setIfInBounds_toArray, List.set_cons_succ, List.set_cons_zero]
          refine wpAnyH_done (by kernel_rfl) ?_ _
          refine NoPanic.normal ?_
          go_wp2_with fail
          go_roundw
          case rel => exact ⟨I + 1, A ++ pieceB kd pc.b, by go_num, h1, h2, ho10, by rw [List.length_append, hpl]; omega, hb10⟩
          case measure => simp [intOf]; omega
        · have hAl4 : A.length ≤ 44200 := by omega
          clear HQ1 HQ2 hAl
          have hOX : OwnX wr W0.heap.size C D (.slice aA A.length cA) A := ⟨hAo, fun q hq => ⟨fun e => by have := (hAo.blocks q hq).1; have := hT.d.p.lt q e; omega, fun e => by have := (hAo.blocks q hq).1; have := hT.d.r.lt q e; omega⟩⟩
          clear hT hAo hbi
          have xk : wr.cell? ⟨Bx, 0, none⟩ = some (.slice a0 H0.length c0) := hTi.x.cell (j := 0) rfl
          by_cases h1 : I < P1.length
          · have i1 : (I : Int) < (P1.length : Int) := by omega
            have i2 : ¬ (I : Int) < 40 := by omega
            clear hgo
            have hno : 0 < H0.length → ∀ q, (Value.slice a0 H0.length c0).ownBlock = some q → q < w.heap.size := fun h0 q hq => Seg.own_lt HH0.out h0 q hq
            go_upto_region 19 with (first | (go_at_call 8; refine (od_write L C s 0 _ H0 wr hTi.d.p (HH0.out.below hBw (Nat.le_refl _)) (fun h0 q hq e => by have := hno h0 q hq; have := hTi.d.lc q e; omega)).mono ?_; rintro e w6 ⟨rfl, hp6, hc6⟩; have hO6 := hTi.d.mid hc6; have hB6 : Below w.heap.size w w6 := hBw.trans (hc6.below hTi.d.lc hBw.size); have xm : w6.cell? ⟨Bx, 0, none⟩ = some (.slice a0 H0.length c0) := (hTi.x.chg hc6 hTi.xC).cell (j := 0) rfl) | (go_at_call 9; refine (refWrite_any _ s 0 _ H0 w6 hO6.d (HH0.out.below hB6 (Nat.le_refl _)) hH0 (fun h0 q hq e => by have := hno h0 q hq; have := hTi.d.ld q (hO6.own q e); omega)).mono ?_; rintro e w7 ⟨rfl, hr7, hc7⟩) | fail)
            have hT7 := hTi.wrote 0 H0 hp6 hc6 hr7 hc7
            have hOX7 := hOX.step hc6 (hc7.weaken hO6.own)
            clear hTi hOX hp6 hc6 hr7 hc7 hO6 hB6 xm xk hno hBw i1 i2
            generalize (writeS s 0 H0).2 = s7 at *
            generalize Fr C wr w6 = C7 at *
            generalize Fr D w6 w7 = D7 at *
            go_wp2_with fail
            go_loopw [16] (fun iv WJ => ∃ (J : Nat) (C D : Nat → Prop) (s : DS), iv = .int .i64 (J : Int) ∧ J ≤ 20 ∧ Tl7 w WJ L C M D s Bx 23 #[.slice a0 H0.length c0, .slice a1 H1.length c1] ∧ OwnX WJ W0.heap.size C D (.slice aA A.length cA) A) (fun iv _ => 20 - (intOf iv).toNat)
            case atStart => exact ⟨0, _, _, _, rfl, Nat.zero_le _, hT7, hOX7⟩
            case round =>
              clear hT7 hOX7
              obtain ⟨J, C1, D1, s1, rfl, hJ, hT1, hO1⟩ := hrel
              by_cases g1 : J < 20
              · have k1 : (J : Int) < 20 := by omega
                by_cases g2 : 128 * J < A.length
                · have k2 : (128 : Int) * (J : Int) < (A.length : Int) := by omega
                  have hcap : A.length ≤ cA := (hO1.o.seg.takesD A.length (Nat.le_refl _)).2
                  have hrest : restD aA cA (128 * J) = Option.map (fun x => x.add (128 * J)) aA := by unfold restD; rw [if_neg (by omega), Nat.mul_one]
                  obtain ⟨HI, hHI⟩ : ∃ HI, HI = min A.length (128 * J + 128) := ⟨_, rfl⟩
                  have hmn : min (A.length : Int) ((128 : Int) * (J : Int) + 128) = (HI : Int) := by omega
                  have hlo : 128 * J ≤ HI := by omega
                  have hhi : HI ≤ A.length := by omega
                  clear hHI
                  have HSG : Hid (∀ V, Seg V (.slice aA A.length cA) A → Seg V (.slice (Option.map (fun x => x.add (128 * J)) aA) (HI - 128 * J) (cA - 128 * J)) ((A.drop (128 * J)).take (HI - 128 * J))) := fun V hV => by have := seg_mid7t hV (128 * J) (HI - 128 * J) (by omega); rw [hrest] at this; exact this
                  have HBK : Hid (∀ q, (Value.slice (Option.map (fun x => x.add (128 * J)) aA) (HI - 128 * J) (cA - 128 * J)).ownBlock = some q → ¬ C1 q ∧ ¬ D1 q) := fun q hq => hO1.c q (rest_block7 aA A.length cA (128 * J) _ _ q (by rw [hrest]; exact hq))
                  have hbl : ((A.drop (128 * J)).take (HI - 128 * J)).length ≤ 1000000 := by rw [List.length_take]; omega
                  generalize (A.drop (128 * J)).take (HI - 128 * J) = BB at *
                  clear hrest
                  go_wp2_with (first | (go_at_call 8; with_reducible refine (od_write L C1 s1 ((2 : Int) + (J : Int)) _ BB wr hT1.d.p (HSG.out wr hO1.o.seg) (fun _ q hq => (HBK.out q hq).1)).mono ?_; rintro e w8 ⟨rfl, hp8, hc8⟩; have hO8 := hT1.d.mid hc8; have hS8 := HSG.out w8 (hO1.o.chg hc8 (fun q hq => (hO1.c q hq).1)).seg) | (go_at_call 9; refine (refWrite_any (M.off w8 D1) s1 ((2 : Int) + (J : Int)) _ BB w8 hO8.d hS8 hbl (fun _ q hq e => (HBK.out q hq).2 (hO8.own q e))).mono ?_; rintro e w9 ⟨rfl, hr9, hc9⟩) | fail)
                  have hT9 := hT1.wrote ((2 : Int) + (J : Int)) BB hp8 hc8 hr9 hc9
                  have hO9 := hO1.step hc8 (hc9.weaken hO8.own)
                  go_roundw
                  case rel => exact ⟨J + 1, _, _, _, by go_num, g1, hT9, hO9⟩
                  case measure => simp [intOf]; omega
                · have k2 : ¬ (128 : Int) * (J : Int) < (A.length : Int) := by omega
                  go_wp2_with fail
                  go_roundw
                  case rel => exact ⟨1, _, _, _, by go_num, by omega, hT1⟩
                  case measure => simp [intOf]
              · have k1 : ¬ (J : Int) < 20 := by omega
                go_wp2_with fail
                go_roundw
                case rel => exact ⟨1, _, _, _, by go_num, by omega, hT1⟩
                case measure => simp [intOf]
          · have i1 : ¬ (I : Int) < (P1.length : Int) := by omega
            clear hgo
            have hno : 0 < H0.length → ∀ q, (Value.slice a0 H0.length c0).ownBlock = some q → q < w.heap.size := fun h0 q hq => Seg.own_lt HH0.out h0 q hq
            go_upto_region 19 with (first | (go_at_call 8; refine (od_write L C s 0 _ H0 wr hTi.d.p (HH0.out.below hBw (Nat.le_refl _)) (fun h0 q hq e => by have := hno h0 q hq; have := hTi.d.lc q e; omega)).mono ?_; rintro e w6 ⟨rfl, hp6, hc6⟩; have hO6 := hTi.d.mid hc6; have hB6 : Below w.heap.size w w6 := hBw.trans (hc6.below hTi.d.lc hBw.size); have xm : w6.cell? ⟨Bx, 0, none⟩ = some (.slice a0 H0.length c0) := (hTi.x.chg hc6 hTi.xC).cell (j := 0) rfl) | (go_at_call 9; refine (refWrite_any _ s 0 _ H0 w6 hO6.d (HH0.out.below hB6 (Nat.le_refl _)) hH0 (fun h0 q hq e => by have := hno h0 q hq; have := hTi.d.ld q (hO6.own q e); omega)).mono ?_; rintro e w7 ⟨rfl, hr7, hc7⟩) | fail)
            have hT7 := hTi.wrote 0 H0 hp6 hc6 hr7 hc7
            have hOX7 := hOX.step hc6 (hc7.weaken hO6.own)
            clear hTi hOX hp6 hc6 hr7 hc7 hO6 hB6 xm xk hno hBw i1
            generalize (writeS s 0 H0).2 = s7 at *
            generalize Fr C wr w6 = C7 at *
            generalize Fr D w6 w7 = D7 at *
            go_wp2_with fail
            go_loopw [16] (fun iv WJ => ∃ (J : Nat) (C D : Nat → Prop) (s : DS), iv = .int .i64 (J : Int) ∧ J ≤ 20 ∧ Tl7 w WJ L C M D s Bx 23 #[.slice a0 H0.length c0, .slice a1 H1.length c1] ∧ OwnX WJ W0.heap.size C D (.slice aA A.length cA) A) (fun iv _ => 20 - (intOf iv).toNat)
            case atStart => exact ⟨0, _, _, _, rfl, Nat.zero_le _, hT7, hOX7⟩
            case round =>
              clear hT7 hOX7
              obtain ⟨J, C1, D1, s1, rfl, hJ, hT1, hO1⟩ := hrel
              by_cases g1 : J < 20
              · have k1 : (J : Int) < 20 := by omega
                by_cases g2 : 128 * J < A.length
                · have k2 : (128 : Int) * (J : Int) < (A.length : Int) := by omega
                  have hcap : A.length ≤ cA := (hO1.o.seg.takesD A.length (Nat.le_refl _)).2
                  have hrest : restD aA cA (128 * J) = Option.map (fun x => x.add (128 * J)) aA := by unfold restD; rw [if_neg (by omega), Nat.mul_one]
                  obtain ⟨HI, hHI⟩ : ∃ HI, HI = min A.length (128 * J + 128) := ⟨_, rfl⟩
                  have hmn : min (A.length : Int) ((128 : Int) * (J : Int) + 128) = (HI : Int) := by omega
                  have hlo : 128 * J ≤ HI := by omega
                  have hhi : HI ≤ A.length := by omega
                  clear hHI
                  have HSG : Hid (∀ V, Seg V (.slice aA A.length cA) A → Seg V (.slice (Option.map (fun x => x.add (128 * J)) aA) (HI - 128 * J) (cA - 128 * J)) ((A.drop (128 * J)).take (HI - 128 * J))) := fun V hV => by have := seg_mid7t hV (128 * J) (HI - 128 * J) (by omega); rw [hrest] at this; exact this
                  have HBK : Hid (∀ q, (Value.slice (Option.map (fun x => x.add (128 * J)) aA) (HI - 128 * J) (cA - 128 * J)).ownBlock = some q → ¬ C1 q ∧ ¬ D1 q) := fun q hq => hO1.c q (rest_block7 aA A.length cA (128 * J) _ _ q (by rw [hrest]; exact hq))
                  have hbl : ((A.drop (128 * J)).take (HI - 128 * J)).length ≤ 1000000 := by rw [List.length_take]; omega
                  generalize (A.drop (128 * J)).take (HI - 128 * J) = BB at *
                  clear hrest
                  go_wp2_with (first | (go_at_call 8; with_reducible refine (od_write L C1 s1 ((2 : Int) + (J : Int)) _ BB wr hT1.d.p (HSG.out wr hO1.o.seg) (fun _ q hq => (HBK.out q hq).1)).mono ?_; rintro e w8 ⟨rfl, hp8, hc8⟩; have hO8 := hT1.d.mid hc8; have hS8 := HSG.out w8 (hO1.o.chg hc8 (fun q hq => (hO1.c q hq).1)).seg) | (go_at_call 9; refine (refWrite_any (M.off w8 D1) s1 ((2 : Int) + (J : Int)) _ BB w8 hO8.d hS8 hbl (fun _ q hq e => (HBK.out q hq).2 (hO8.own q e))).mono ?_; rintro e w9 ⟨rfl, hr9, hc9⟩) | fail)
                  have hT9 := hT1.wrote ((2 : Int) + (J : Int)) BB hp8 hc8 hr9 hc9
                  have hO9 := hO1.step hc8 (hc9.weaken hO8.own)
                  go_roundw
                  case rel => exact ⟨J + 1, _, _, _, by go_num, g1, hT9, hO9⟩
                  case measure => simp [intOf]; omega
                · have k2 : ¬ (128 : Int) * (J : Int) < (A.length : Int) := by omega
                  go_wp2_with fail
                  go_roundw
                  case rel => exact ⟨1, _, _, _, by go_num, by omega, hT1⟩
                  case measure => simp [intOf]
              · have k1 : ¬ (J : Int) < 20 := by omega
                go_wp2_with fail
                go_roundw
                case rel => exact ⟨1, _, _, _, by go_num, by omega, hT1⟩
                case measure => simp [intOf]
    · obtain rfl : K = 1 := by omega
      clear hK2 hK hK0
      rw [show ((1 : Nat) : Int) = 1 from rfl]
      have hix : ∀ V, (Instr.index 33 (.agg #[.slice o1 P1.length d1, .slice o2 P2.length d2]) (.int .i64 1)).run Try.prog V = .ok (.slice o2 P2.length d2) V := fun V => by kernel_rfl
      go_wp2_with fail
      clear hix
      obtain ⟨W0, rfl⟩ : ∃ W0, W0 = wr := ⟨_, rfl⟩
      go_loopw [14, 15] (fun AV iv WI => ∃ (I : Nat) (A : List UInt8), iv = .int .i64 (I : Int) ∧ I ≤ P2.length ∧ I ≤ 40 ∧ Own WI W0.heap.size AV A ∧ A.length ≤ I * 1105 ∧ Below W0.heap.size W0 WI) (fun _ iv _ => 40 - (intOf iv).toNat)
      case atStart => exact ⟨0, [], rfl, Nat.zero_le _, Nat.zero_le _, ⟨rfl, .inl ⟨rfl, rfl⟩⟩, Nat.zero_le _, Below.refl _ _⟩
      case round =>
        obtain ⟨I, A, rfl, hI, hI4, hAo, hAl, hbi⟩ := hrel
        have hTi := hT.after hbi
        obtain ⟨aA, cA, rfl⟩ := Seg.shapeD hAo.seg
        have hBw : Below w.heap.size w wr := hTi.d.b
        by_cases hgo : I < P2.length ∧ I < 40
        · obtain ⟨h1, h2⟩ := hgo
          have i1 : (I : Int) < (P2.length : Int) := by omega
          have i2 : (I : Int) < 40 := by omega
          obtain ⟨pc, hpc⟩ : ∃ pc, P2[I]? = some pc := ⟨_, List.getElem?_eq_getElem h1⟩
          obtain ⟨q, off, rfl, hq, e0, bv, e1, hbs, -⟩ := HQ2.out I pc hpc
          obtain ⟨ab, cb, rfl⟩ := Seg.shapeD hbs
          have HC0 : Hid (∀ V, Below w.heap.size w V → V.cell? ⟨q, off + I * 2, none⟩ = some (.int .i64 pc.kind) ∧ V.cell? ⟨q, off + I * 2 + 1, none⟩ = some (.slice ab pc.b.length cb) ∧ Seg V (.slice ab pc.b.length cb) pc.b) := fun V hV => ⟨by rw [hV.cell (p := ⟨q, off + I * 2, none⟩) hq]; exact e0, by rw [hV.cell (p := ⟨q, off + I * 2 + 1, none⟩) hq]; exact e1, hbs.below hV (Nat.le_refl _)⟩
          have f0 := (HC0.out wr hBw).1
          have f1 := (HC0.out wr hBw).2.1
          have HIX : Hid (∀ V, (Instr.indexAt 24 (.slice (some ⟨q, off, none⟩) P2.length d2) (.int .i64 (I : Int))).run Try.prog V = .ok (.pointer (some ⟨q, off + I * 2, none⟩)) V) := fun V => index_pcs7 q off P2.length d2 I h1 V
          clear hpc e0 e1 hbs hq
          by_cases g1 : 1100 < pc.b.length
          · have k1 : (1100 : Int) < (pc.b.length : Int) := by omega
            go_wp2_with fail
            go_ret
            exact ⟨rfl, hBw⟩
          have k1 : ¬ (1100 : Int) < (pc.b.length : Int) := by omega
          by_cases g2 : pc.kind < 0
          · go_wp2_with fail
            go_ret
            exact ⟨rfl, hBw⟩
          by_cases g3 : 9 < pc.kind
          · go_wp2_with fail
            go_ret
            exact ⟨rfl, hBw⟩
          obtain ⟨kd, hkd⟩ : ∃ kd : Nat, pc.kind = (kd : Int) := ⟨pc.kind.toNat, by omega⟩
          go_upto_region 16 with fail
          have HPC : Hid (∀ V, Below w.heap.size w V → Calls Try.prog 7 #[.int .i64 pc.kind, .slice ab pc.b.length cb] V fun e w' => ∃ v, e = .returned v ∧ Own w' V.heap.size v (pieceB kd pc.b) ∧ Below V.heap.size V w') := fun V hV => by rw [hkd]; exact piece7_any kd _ pc.b V (by omega) (HC0.out V hV).2.2 (by omega)
          have hpl : (pieceB kd pc.b).length = pc.b.length + 5 := by rw [pieceB_len]
          clear f0 f1 hkd g2 g3 k1
          have hX0 : Below w.heap.size w wr.drew := hBw.drew
          refine held_begin (fun V => Below w.heap.size w V) (by kernel_rfl) ?_
          refine held_take 0 105 _ (.slice aA A.length cA) rfl rfl (by kernel_rfl) (by kernel_rfl) (by kernel_rfl) rfl hX0 (fun _ _ => rfl) ?_
          simp only [Act.put, List.setIfInBounds_toArray, List.set_cons_succ, List.set_cons_zero]
          refine held_take 1 106 _ (.slice (some ⟨q, off, none⟩) P2.length d2) rfl rfl (by kernel_rfl) (by kernel_rfl) (by kernel_rfl) rfl hX0 (fun _ _ => rfl) ?_
          simp only [Act.put, List.setIfInBounds_toArray, List.set_cons_succ, List.set_cons_zero]
          refine held_take 2 107 _ (.int .i64 (I : Int)) rfl rfl (by kernel_rfl) (by kernel_rfl) (by kernel_rfl) rfl hX0 (fun _ _ => rfl) ?_
          simp only [Act.put, List.setIfInBounds_toArray, List.set_cons_succ, List.set_cons_zero]
          refine held_take 3 108 _ (.pointer (some ⟨q, off + I * 2, none⟩)) rfl rfl (by kernel_rfl) (by kernel_rfl) (by kernel_rfl) rfl hX0 (fun V _ => exec_indexat 24 _ _ rfl (.slice (some ⟨q, off, none⟩) P2.length d2) (.int .i64 (I : Int)) _ rfl rfl (HIX.out V)) ?_
          simp only [Act.put, List.setIfInBounds_toArray, List.set_cons_succ, List.set_cons_zero]
          refine held_take 4 109 _ (.pointer (some ⟨q, off + I * 2, none⟩)) rfl rfl (by kernel_rfl) (by kernel_rfl) (by kernel_rfl) rfl hX0 (fun _ _ => rfl) ?_
          simp only [Act.put, List.setIfInBounds_toArray, List.set_cons_succ, List.set_cons_zero]
          refine held_take 5 110 _ (.int .i64 pc.kind) rfl rfl (by kernel_rfl) (by kernel_rfl) (by kernel_rfl) rfl hX0 (fun V hV => exec_loadW 3 _ rfl (fun _ => by kernel_rfl) q (off + I * 2) rfl _ (HC0.out V hV).1) ?_
          simp only [Act.put, List.setIfInBounds_toArray, List.set_cons_succ, List.set_cons_zero]
          refine held_take 6 111 _ (.slice (some ⟨q, off, none⟩) P2.length d2) rfl rfl (by kernel_rfl) (by kernel_rfl) (by kernel_rfl) rfl hX0 (fun _ _ => rfl) ?_
          simp only [Act.put, List.setIfInBounds_toArray, List.set_cons_succ, List.set_cons_zero]
          refine held_take 7 112 _ (.int .i64 (I : Int)) rfl rfl (by kernel_rfl) (by kernel_rfl) (by kernel_rfl) rfl hX0 (fun _ _ => rfl) ?_
          simp only [Act.put, List.setIfInBounds_toArray, List.set_cons_succ, List.set_cons_zero]
          refine held_take 8 113 _ (.pointer (some ⟨q, off + I * 2, none⟩)) rfl rfl (by kernel_rfl) (by kernel_rfl) (by kernel_rfl) rfl hX0 (fun V _ => exec_indexat 24 _ _ rfl (.slice (some ⟨q, off, none⟩) P2.length d2) (.int .i64 (I : Int)) _ rfl rfl (HIX.out V)) ?_
          simp only [Act.put, List.setIfInBounds_toArray, List.set_cons_succ, List.set_cons_zero]
          refine held_take 9 114 _ (.pointer (some ⟨q, off + I * 2 + 1, none⟩)) rfl rfl (by kernel_rfl) (by kernel_rfl) (by kernel_rfl) rfl hX0 (fun _ _ => rfl) ?_
          simp only [Act.put, List.setIfInBounds_toArray, List.set_cons_succ, List.set_cons_zero]
          refine held_take 10 115 _ (.slice ab pc.b.length cb) rfl rfl (by kernel_rfl) (by kernel_rfl) (by kernel_rfl) rfl hX0 (fun V hV => exec_loadW 22 _ rfl (fun _ => by kernel_rfl) q (off + I * 2 + 1) rfl _ (HC0.out V hV).2.1) ?_
          simp only [Act.put, List.setIfInBounds_toArray, List.set_cons_succ, List.set_cons_zero]
          refine held_all1 11 (by kernel_rfl) (op_call 11 116 _ 7 #[.int .i64 pc.kind, .slice ab pc.b.length cb] rfl rfl rfl (exec_two8 7 _ _ _ rfl _ _ rfl rfl Try.call7) ((HPC.out _ hX0).mono ?_))
          rintro e w9 ⟨v5, rfl, ho5, hb5⟩
          have hX9 : Below w.heap.size w w9 := hX0.trans (hb5.mono hX0.size)
          have hb9 : Below W0.heap.size W0 w9 := hbi.drew.trans (hb5.mono hbi.size)
          obtain ⟨v6', w10, hr10, ho10, hg10, hv10⟩ := app_bytes w9 W0.heap.size (.slice aA A.length cA) A (hAo.below ((Below.refl _ _).drew.trans (hb5.mono (Nat.le_refl _))) (Nat.le_refl _)) v5 (pieceB kd pc.b) ho5.seg (by omega) hb9.size
          have hb10 : Below W0.heap.size W0 w10 := below_grown hb9 hg10 hb9.size (fun q hq => (hAo.blocks q hq).1)
          have hX10 : Below w.heap.size w w10 := hT.d.b.trans (hb10.mono hT.d.b.size)
          refine ⟨_, rfl, hX9, ?_⟩
          simp only [Act.put, List.setIfInBounds_toArray, List.set_cons_succ, List.set_cons_zero]
          refine held_all1 12 (by kernel_rfl) (op_value 12 117 _ (v6') w10 rfl rfl rfl (exec_app _ _ _ _ rfl _ _ _ rfl rfl hr10) ⟨hX10, ?_⟩)
          simp only [Act.put, List.setIfInBounds_toArray, List.set_cons_succ, List.set_cons_zero]
          refine held_take 13 14 _ (v6') rfl rfl (by kernel_rfl) (by kernel_rfl) (by kernel_rfl) rfl hX10 (fun _ _ => rfl) ?_
          simp only [Act.put, List.setIfInBounds_toArray, List.set_cons_succ, List.set_cons_zero]
          refine wpAnyH_done (by kernel_rfl) ?_ _
          refine NoPanic.normal ?_
          go_wp2_with fail
          go_roundw
          case rel => exact ⟨I + 1, A ++ pieceB kd pc.b, by go_num, h1, h2, ho10, by rw [List.length_append, hpl]; omega, hb10⟩
          case measure => simp [intOf]; omega
        · have hAl4 : A.length ≤ 44200 := by omega
          clear HQ1 HQ2 hAl
          have hOX : OwnX wr W0.heap.size C D (.slice aA A.length cA) A := ⟨hAo, fun q hq => ⟨fun e => by have := (hAo.blocks q hq).1; have := hT.d.p.lt q e; omega, fun e => by have := (hAo.blocks q hq).1; have := hT.d.r.lt q e; omega⟩⟩
          clear hT hAo hbi
          have xk : wr.cell? ⟨Bx, 1, none⟩ = some (.slice a1 H1.length c1) := hTi.x.cell (j := 1) rfl
          by_cases h1 : I < P2.length
          · have i1 : (I : Int) < (P2.length : Int) := by omega
            have i2 : ¬ (I : Int) < 40 := by omega
            clear hgo
            have hno : 0 < H1.length → ∀ q, (Value.slice a1 H1.length c1).ownBlock = some q → q < w.heap.size := fun h0 q hq => Seg.own_lt HH1.out h0 q hq
            go_upto_region 19 with (first | (go_at_call 8; refine (od_write L C s 1 _ H1 wr hTi.d.p (HH1.out.below hBw (Nat.le_refl _)) (fun h0 q hq e => by have := hno h0 q hq; have := hTi.d.lc q e; omega)).mono ?_; rintro e w6 ⟨rfl, hp6, hc6⟩; have hO6 := hTi.d.mid hc6; have hB6 : Below w.heap.size w w6 := hBw.trans (hc6.below hTi.d.lc hBw.size); have xm : w6.cell? ⟨Bx, 1, none⟩ = some (.slice a1 H1.length c1) := (hTi.x.chg hc6 hTi.xC).cell (j := 1) rfl) | (go_at_call 9; refine (refWrite_any _ s 1 _ H1 w6 hO6.d (HH1.out.below hB6 (Nat.le_refl _)) hH1 (fun h0 q hq e => by have := hno h0 q hq; have := hTi.d.ld q (hO6.own q e); omega)).mono ?_; rintro e w7 ⟨rfl, hr7, hc7⟩) | fail)
            have hT7 := hTi.wrote 1 H1 hp6 hc6 hr7 hc7
            have hOX7 := hOX.step hc6 (hc7.weaken hO6.own)
            clear hTi hOX hp6 hc6 hr7 hc7 hO6 hB6 xm xk hno hBw i1 i2
            generalize (writeS s 1 H1).2 = s7 at *
            generalize Fr C wr w6 = C7 at *
            generalize Fr D w6 w7 = D7 at *
            go_wp2_with fail
            go_loopw [16] (fun iv WJ => ∃ (J : Nat) (C D : Nat → Prop) (s : DS), iv = .int .i64 (J : Int) ∧ J ≤ 20 ∧ Tl7 w WJ L C M D s Bx 23 #[.slice a0 H0.length c0, .slice a1 H1.length c1] ∧ OwnX WJ W0.heap.size C D (.slice aA A.length cA) A) (fun iv _ => 20 - (intOf iv).toNat)
            case atStart => exact ⟨0, _, _, _, rfl, Nat.zero_le _, hT7, hOX7⟩
            case round =>
              clear hT7 hOX7
              obtain ⟨J, C1, D1, s1, rfl, hJ, hT1, hO1⟩ := hrel
              by_cases g1 : J < 20
              · have k1 : (J : Int) < 20 := by omega
                by_cases g2 : 128 * J < A.length
                · have k2 : (128 : Int) * (J : Int) < (A.length : Int) := by omega
                  have hcap : A.length ≤ cA := (hO1.o.seg.takesD A.length (Nat.le_refl _)).2
                  have hrest : restD aA cA (128 * J) = Option.map (fun x => x.add (128 * J)) aA := by unfold restD; rw [if_neg (by omega), Nat.mul_one]
                  obtain ⟨HI, hHI⟩ : ∃ HI, HI = min A.length (128 * J + 128) := ⟨_, rfl⟩
                  have hmn : min (A.length : Int) ((128 : Int) * (J : Int) + 128) = (HI : Int) := by omega
                  have hlo : 128 * J ≤ HI := by omega
                  have hhi : HI ≤ A.length := by omega
                  clear hHI
                  have HSG : Hid (∀ V, Seg V (.slice aA A.length cA) A → Seg V (.slice (Option.map (fun x => x.add (128 * J)) aA) (HI - 128 * J) (cA - 128 * J)) ((A.drop (128 * J)).take (HI - 128 * J))) := fun V hV => by have := seg_mid7t hV (128 * J) (HI - 128 * J) (by omega); rw [hrest] at this; exact this
                  have HBK : Hid (∀ q, (Value.slice (Option.map (fun x => x.add (128 * J)) aA) (HI - 128 * J) (cA - 128 * J)).ownBlock = some q → ¬ C1 q ∧ ¬ D1 q) := fun q hq => hO1.c q (rest_block7 aA A.length cA (128 * J) _ _ q (by rw [hrest]; exact hq))
                  have hbl : ((A.drop (128 * J)).take (HI - 128 * J)).length ≤ 1000000 := by rw [List.length_take]; omega
                  generalize (A.drop (128 * J)).take (HI - 128 * J) = BB at *
                  clear hrest
                  go_wp2_with (first | (go_at_call 8; with_reducible refine (od_write L C1 s1 ((22 : Int) + (J : Int)) _ BB wr hT1.d.p (HSG.out wr hO1.o.seg) (fun _ q hq => (HBK.out q hq).1)).mono ?_; rintro e w8 ⟨rfl, hp8, hc8⟩; have hO8 := hT1.d.mid hc8; have hS8 := HSG.out w8 (hO1.o.chg hc8 (fun q hq => (hO1.c q hq).1)).seg) | (go_at_call 9; refine (refWrite_any (M.off w8 D1) s1 ((22 : Int) + (J : Int)) _ BB w8 hO8.d hS8 hbl (fun _ q hq e => (HBK.out q hq).2 (hO8.own q e))).mono ?_; rintro e w9 ⟨rfl, hr9, hc9⟩) | fail)
                  have hT9 := hT1.wrote ((22 : Int) + (J : Int)) BB hp8 hc8 hr9 hc9
                  have hO9 := hO1.step hc8 (hc9.weaken hO8.own)
                  go_roundw
                  case rel => exact ⟨J + 1, _, _, _, by go_num, g1, hT9, hO9⟩
                  case measure => simp [intOf]; omega
                · have k2 : ¬ (128 : Int) * (J : Int) < (A.length : Int) := by omega
                  go_wp2_with fail
                  go_roundw
                  case rel => exact ⟨2, _, _, _, by go_num, by omega, hT1⟩
                  case measure => simp [intOf]
              · have k1 : ¬ (J : Int) < 20 := by omega
                go_wp2_with fail
                go_roundw
                case rel => exact ⟨2, _, _, _, by go_num, by omega, hT1⟩
                case measure => simp [intOf]
          · have i1 : ¬ (I : Int) < (P2.length : Int) := by omega
            clear hgo
            have hno : 0 < H1.length → ∀ q, (Value.slice a1 H1.length c1).ownBlock = some q → q < w.heap.size := fun h0 q hq => Seg.own_lt HH1.out h0 q hq
            go_upto_region 19 with (first | (go_at_call 8; refine (od_write L C s 1 _ H1 wr hTi.d.p (HH1.out.below hBw (Nat.le_refl _)) (fun h0 q hq e => by have := hno h0 q hq; have := hTi.d.lc q e; omega)).mono ?_; rintro e w6 ⟨rfl, hp6, hc6⟩; have hO6 := hTi.d.mid hc6; have hB6 : Below w.heap.size w w6 := hBw.trans (hc6.below hTi.d.lc hBw.size); have xm : w6.cell? ⟨Bx, 1, none⟩ = some (.slice a1 H1.length c1) := (hTi.x.chg hc6 hTi.xC).cell (j := 1) rfl) | (go_at_call 9; refine (refWrite_any _ s 1 _ H1 w6 hO6.d (HH1.out.below hB6 (Nat.le_refl _)) hH1 (fun h0 q hq e => by have := hno h0 q hq; have := hTi.d.ld q (hO6.own q e); omega)).mono ?_; rintro e w7 ⟨rfl, hr7, hc7⟩) | fail)
            have hT7 := hTi.wrote 1 H1 hp6 hc6 hr7 hc7
            have hOX7 := hOX.step hc6 (hc7.weaken hO6.own)
            clear hTi hOX hp6 hc6 hr7 hc7 hO6 hB6 xm xk hno hBw i1
            generalize (writeS s 1 H1).2 = s7 at *
            generalize Fr C wr w6 = C7 at *
            generalize Fr D w6 w7 = D7 at *
            go_wp2_with fail
            go_loopw [16] (fun iv WJ => ∃ (J : Nat) (C D : Nat → Prop) (s : DS), iv = .int .i64 (J : Int) ∧ J ≤ 20 ∧ Tl7 w WJ L C M D s Bx 23 #[.slice a0 H0.length c0, .slice a1 H1.length c1] ∧ OwnX WJ W0.heap.size C D (.slice aA A.length cA) A) (fun iv _ => 20 - (intOf iv).toNat)
            case atStart => exact ⟨0, _, _, _, rfl, Nat.zero_le _, hT7, hOX7⟩
            case round =>
              clear hT7 hOX7
              obtain ⟨J, C1, D1, s1, rfl, hJ, hT1, hO1⟩ := hrel
              by_cases g1 : J < 20
              · have k1 : (J : Int) < 20 := by omega
                by_cases g2 : 128 * J < A.length
                · have k2 : (128 : Int) * (J : Int) < (A.length : Int) := by omega
                  have hcap : A.length ≤ cA := (hO1.o.seg.takesD A.length (Nat.le_refl _)).2
                  have hrest : restD aA cA (128 * J) = Option.map (fun x => x.add (128 * J)) aA := by unfold restD; rw [if_neg (by omega), Nat.mul_one]
                  obtain ⟨HI, hHI⟩ : ∃ HI, HI = min A.length (128 * J + 128) := ⟨_, rfl⟩
                  have hmn : min (A.length : Int) ((128 : Int) * (J : Int) + 128) = (HI : Int) := by omega
                  have hlo : 128 * J ≤ HI := by omega
                  have hhi : HI ≤ A.length := by omega
                  clear hHI
                  have HSG : Hid (∀ V, Seg V (.slice aA A.length cA) A → Seg V (.slice (Option.map (fun x => x.add (128 * J)) aA) (HI - 128 * J) (cA - 128 * J)) ((A.drop (128 * J)).take (HI - 128 * J))) := fun V hV => by have := seg_mid7t hV (128 * J) (HI - 128 * J) (by omega); rw [hrest] at this; exact this
                  have HBK : Hid (∀ q, (Value.slice (Option.map (fun x => x.add (128 * J)) aA) (HI - 128 * J) (cA - 128 * J)).ownBlock = some q → ¬ C1 q ∧ ¬ D1 q) := fun q hq => hO1.c q (rest_block7 aA A.length cA (128 * J) _ _ q (by rw [hrest]; exact hq))
                  have hbl : ((A.drop (128 * J)).take (HI - 128 * J)).length ≤ 1000000 := by rw [List.length_take]; omega
                  generalize (A.drop (128 * J)).take (HI - 128 * J) = BB at *
                  clear hrest
                  go_wp2_with (first | (go_at_call 8; with_reducible refine (od_write L C1 s1 ((22 : Int) + (J : Int)) _ BB wr hT1.d.p (HSG.out wr hO1.o.seg) (fun _ q hq => (HBK.out q hq).1)).mono ?_; rintro e w8 ⟨rfl, hp8, hc8⟩; have hO8 := hT1.d.mid hc8; have hS8 := HSG.out w8 (hO1.o.chg hc8 (fun q hq => (hO1.c q hq).1)).seg) | (go_at_call 9; refine (refWrite_any (M.off w8 D1) s1 ((22 : Int) + (J : Int)) _ BB w8 hO8.d hS8 hbl (fun _ q hq e => (HBK.out q hq).2 (hO8.own q e))).mono ?_; rintro e w9 ⟨rfl, hr9, hc9⟩) | fail)
                  have hT9 := hT1.wrote ((22 : Int) + (J : Int)) BB hp8 hc8 hr9 hc9
                  have hO9 := hO1.step hc8 (hc9.weaken hO8.own)
                  go_roundw
                  case rel => exact ⟨J + 1, _, _, _, by go_num, g1, hT9, hO9⟩
                  case measure => simp [intOf]; omega
                · have k2 : ¬ (128 : Int) * (J : Int) < (A.length : Int) := by omega
                  go_wp2_with fail
                  go_roundw
                  case rel => exact ⟨2, _, _, _, by go_num, by omega, hT1⟩
                  case measure => simp [intOf]
              · have k1 : ¬ (J : Int) < 20 := by omega
                go_wp2_with fail
                go_roundw
                case rel => exact ⟨2, _, _, _, by go_num, by omega, hT1⟩
                case measure => simp [intOf]
end Go.Proofs.Ytojgeahablphbaa
