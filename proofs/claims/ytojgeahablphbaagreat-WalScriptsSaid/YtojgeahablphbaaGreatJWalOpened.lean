/-
  What is proved here: both logs are opened, one behind the other; what openings told lies apart from them. the law's 'much' of steps answers, and where it says no, no step has too many bytes. the law's 'alike' answers true of both disks, alike.
  Conditions: those that each fact names. the steps lie in memory. both disks lie in memory, apart from one another.
-/
import Derived.Test.YtojgeahablphbaaGreatJDiskActs
import Derived.Test.YtojgeahablphbaaGreatJWalCrash
import Derived.Test.YtojgeahablphbaaGreatJRefDiskCrash
import Derived.Test.YtojgeahablphbaaGreatJWalSegs
import Derived.Test.YtojgeahablphbaaGreatJPDiskDirty
import Derived.Test.YtojgeahablphbaaGreatJRefDiskDirty
import Derived.BigQuiet
import Derived.Deep.QuietTactic
namespace Go.Proofs.YtojgeahablphbaaGreat
open Go.RowKit

theorem goT_recs : ∀ (n : Nat) (t : TS), (goT n t).recs.length ≤ t.recs.length + n
  | 0, t => Nat.le_refl _
  | n + 1, t => by
    unfold goT
    split
    · have h1 := goT_recs n (stepT t)
      have h2 : (stepT t).recs.length ≤ t.recs.length + 1 := by
        unfold stepT
        split
        · simp
        · simp
      omega
    · omega
theorem toldB_recs (b : List UInt8) : (toldB b).2.length ≤ b.length := by
  unfold toldB
  split
  · have := goT_recs b.length ⟨b, [], [], false⟩
    simpa [tellB] using this
  · simp
theorem foundS_recs {w : World} {L : RLay} {s : DS} (hD : RDisk w L s) : (foundS s).2.length ≤ 262016 := by
  unfold foundS
  split
  · simp
  · have h1 := toldB_recs ((bankS s ((thereS s).2.1 % 2)).take (thereS s).2.2)
    have h2 := bankS_len hD ((thereS s).2.1 % 2) (by omega)
    have h3 := (halfS_le hD).2
    rw [List.length_take] at h1
    omega
/-- Both are opened. -/
theorem DP7.opened {w0 w w1 w2 : World} {L : PLay} {C : Nat → Prop} {M : RLay} {D : Nat → Prop} {s : DS} {l : LS} {G H : Nat} (h : DP7 w0 w L C M D s) (hp : PB w1 G L (fun q => C q ∨ q = G) s l) (hG : w.heap.size ≤ G) (hb1 : Below w.heap.size w w1) (hr : RB w2 H M (fun q => D q ∨ q = H) s l) (hH : w1.heap.size ≤ H) (hb2 : Below w1.heap.size w1 w2) : WP7 w0 w2 G L (fun q => C q ∨ q = G) H M (fun q => D q ∨ q = H) s l := by
  have hw := h.b.size
  have hs1 := hb1.size
  refine ⟨hp.after hb2, hr, fun q hq hd => ?_, fun q hq => ?_, fun q hq => ?_, (h.after hb1).after hb2 |>.b⟩
  · have hg := hp.lt G (.inr rfl)
    rcases hq with hq | hq <;> rcases hd with hd | hd
    · exact h.off q hq hd
    · have := h.p.lt q hq; omega
    · have := h.r.lt q hd; omega
    · omega
  · rcases hq with hq | hq
    · exact h.lc q hq
    · omega
  · rcases hq with hq | hq
    · exact h.ld q hq
    · omega
/-- What openings told, beside both logs. -/
structure Told7 (w : World) (Z : Nat → Prop) (sv tv bv cv : Value) (st : List UInt8) (rs : List (List UInt8)) : Prop where
  s : SegA w Z sv st
  t : SegA w Z tv st
  b : RowsO w Z bv rs
  c : RowsO w Z cv rs
theorem Told7.keep {w w' : World} {S Z Z' : Nat → Prop} {sv tv bv cv : Value} {st : List UInt8} {rs : List (List UInt8)} (h : Told7 w Z sv tv bv cv st rs) (hc : Chg S w w') (hS : ∀ q, S q → q < w.heap.size → Z q) (hZ : ∀ q, Z' q → Z q ∨ w.heap.size ≤ q) : Told7 w' Z' sv tv bv cv st rs :=
  ⟨h.s.keep hc hS hZ, h.t.keep hc hS hZ, h.b.keep hc hS hZ, h.c.keep hc hS hZ⟩
theorem Told7.after {w w' : World} {Z : Nat → Prop} {sv tv bv cv : Value} {st : List UInt8} {rs : List (List UInt8)} (h : Told7 w Z sv tv bv cv st rs) (hb : Below w.heap.size w w') : Told7 w' Z sv tv bv cv st rs :=
  h.keep (S := fun _ => False) (Chg.of_below hb (Nat.le_refl _)) (fun _ h => h.elim) (fun _ h => .inl h)
theorem tn7 : 61 ≠ 5 ∧ 61 ≠ 33 ∧ 49 ≠ 5 ∧ 49 ≠ 33 := by decide
theorem told7_of {w0 w w1 w2 : World} {L : PLay} {C : Nat → Prop} {M : RLay} {D : Nat → Prop} {s : DS} {l : LS} {G H : Nat} {sv tv bv cv : Value} {vs us : List Value} {st : List UInt8} {rs : List (List UInt8)} (h : DP7 w0 w L C M D s) (hp : PB w1 G L (fun q => C q ∨ q = G) s l) (hb1 : Below w.heap.size w w1) (hr : RB w2 H M (fun q => D q ∨ q = H) s l) (hb2 : Below w1.heap.size w1 w2)
    (hm : rs.length ≤ maxLen) (h1 : Own w1 w.heap.size sv st) (h2 : Gat w1 w.heap.size bv vs rs) (h3 : Own w2 w1.heap.size tv st) (h4 : Gat w2 w1.heap.size cv us rs) : Told7 w2 (fun q => (C q ∨ q = G) ∨ (D q ∨ q = H)) sv tv bv cv st rs := by
  obtain ⟨CD, len, bg, tv', tb, _, _, hG1, _⟩ := hp.body
  have hG : Blk w2 G 61 _ := Blk.below hG1 hb2 (Blk.lt hG1)
  obtain ⟨bv', hH, _⟩ := hr.l.head
  have hs := hb1.size
  have z1 : ∀ q, ((C q ∨ q = G) ∨ (D q ∨ q = H)) → q < w.heap.size ∨ q = G ∨ q = H := fun q hq => by
    rcases hq with (hq | hq) | (hq | hq)
    · exact .inl (h.p.lt q hq)
    · exact .inr (.inl hq)
    · exact .inl (h.r.lt q hq)
    · exact .inr (.inr hq)
  have z2 : ∀ q, ((C q ∨ q = G) ∨ (D q ∨ q = H)) → q < w1.heap.size ∨ q = G ∨ q = H := fun q hq => by
    rcases z1 q hq with e | e
    · exact .inl (by omega)
    · exact .inr e
  have h2' : Gat w2 w.heap.size bv vs rs := ⟨ownsRow_chg h2.own (Chg.of_below (S := fun _ => False) hb2 (Nat.le_refl _)) (fun _ _ => id), fun i u r e1 e2 => (h2.rows i u r e1 e2).below hb2 (Nat.le_refl _)⟩
  exact ⟨(h1.below hb2 (Nat.le_refl _)).segO hG hH tn7.1 tn7.2.2.1 z1, h3.segO hG hH tn7.1 tn7.2.2.1 z2, h2'.rowsO hm hG hH ⟨tn7.1, tn7.2.1⟩ ⟨tn7.2.2.1, tn7.2.2.2⟩ z1, h4.rowsO hm hG hH ⟨tn7.1, tn7.2.1⟩ ⟨tn7.2.2.1, tn7.2.2.2⟩ z2⟩
/-- Both crash. -/
theorem d7_crash {w0 w : World} {L : PLay} {C : Nat → Prop} {M : RLay} {D : Nat → Prop} {s : DS} (h : DP7 w0 w L C M D s) (sv : Value) (stay : List Bool) (torn cut : Int) (hS : BoolsA w C sv stay) :
    Calls Tryz.prog 11 #[.pointer (some ⟨L.g, 0, none⟩), sv, .int .i64 torn, .int .i64 cut] w fun e w' => e = .returned (.tuple #[]) ∧ OD w' L (Fr C w w') (crashS s stay torn cut) ∧ Chg C w w' := by
  have hB : BoolsA w (L.off w C).T sv stay := by
    obtain ⟨ao, c, h1, h2⟩ := hS
    refine ⟨ao, c, h1, fun j b hj => ?_⟩
    obtain ⟨q, off, e, hq, hn, hc⟩ := h2 j b hj
    exact ⟨q, off, e, hq, fun e => hn (h.p.own q e), hc⟩
  exact (crash_any (L.off w C) s sv stay torn cut w h.p.d hB).mono fun _ _ ⟨h1, h2, h3⟩ => ⟨h1, h.p.step h2 h3, h3.weaken h.p.own⟩
theorem r7_crash {w : World} {M : RLay} {D : Nat → Prop} {s : DS} (h : OR w M D s) (sv : Value) (stay : List Bool) (torn cut : Int) (hS : BoolsA w D sv stay) (hsl : stay.length ≤ 1000000) :
    Calls Tryz.prog 12 #[.pointer (some ⟨M.g, 0, none⟩), sv, .int .i64 torn, .int .i64 cut] w fun e w' => e = .returned (.tuple #[]) ∧ OR w' M (Fr D w w') (crashS s stay torn cut) ∧ Chg D w w' := by
  have hB : BoolsA w (M.off w D).T sv stay := by
    obtain ⟨ao, c, h1, h2⟩ := hS
    refine ⟨ao, c, h1, fun j b hj => ?_⟩
    obtain ⟨q, off, e, hq, hn, hc⟩ := h2 j b hj
    exact ⟨q, off, e, hq, fun e => hn (h.own q e), hc⟩
  exact (refCrash_any (M.off w D) s sv stay torn cut w h.d hB hsl).mono fun _ _ ⟨h1, h2, h3⟩ => ⟨h1, h.step h2 h3.size, h3.weaken h.own⟩
/-- Both disks behind a crash of both: there is a draw ahead of the second. -/
theorem dp7_crashed {w0 w w1 w2 : World} {L : PLay} {C : Nat → Prop} {M : RLay} {D : Nat → Prop} {s s' : DS} (h : DP7 w0 w L C M D s) (hp : OD w1 L (Fr C w w1) s') (hc1 : Chg C w w1) (hr : OR w2 M (Fr D w1.drew w2) s') (hc2 : Chg D w1.drew w2) : DP7 w0 w2 L (Fr C w w1) M (Fr D w1.drew w2) s' := by
  have hd : Chg C w1 w1.drew := Chg.of_below (Below.refl _ _).drew (Nat.le_refl _)
  exact h.both (w1 := w1.drew) (hp.after (Below.refl _ _).drew) (hc1.trans (S' := C) hd (fun _ _ h => h)) hr hc2
theorem crash_now (s : DS) (stay : List Bool) (torn cut : Int) : (crashS s stay torn cut).now.length = s.now.length ∧ (crashS s stay torn cut).down = false := ⟨(crashTo_len _ _ _ _).1, rfl⟩
theorem openE_crash (s : DS) (stay : List Bool) (torn cut : Int) : openE (crashS s stay torn cut) = if sizeS s < 256 then 1 else 0 := by
  have h := crash_now s stay torn cut
  have hsz : sizeS (crashS s stay torn cut) = sizeS s := by unfold sizeS halfS; rw [h.1]
  unfold openE
  rw [hsz, h.2]
  rfl
end Go.Proofs.YtojgeahablphbaaGreat
namespace Go.Proofs.YtojgeahablphbaaGreat
open Go.RowKit

/-- What 'much' answers. -/
def Much7 (l : List ActP) (e : Ending) : Prop := ∃ m : Bool, e = .returned (.bool m) ∧ (m = false → ∀ (i : Nat) a, l[i]? = some a → i < 100 → a.b.length ≤ 6000 ∧ a.stay.length ≤ 5000)
set_option maxRecDepth 100000 in
set_option maxHeartbeats 2000000 in
theorem much7_any (v : Value) (l : List ActP) (w : World) (h : ActsIn w v l) : Calls Tryz.prog 5 #[v] w fun e w' => Much7 l e ∧ w' = w := by
  obtain ⟨ao, c, rfl, hm, hc⟩ := h
  unfold maxLen at hm
  go_enter Tryz.func5, Tryz.ntmps5
  go_wp2
  go_loop [3, 4] (fun nv i => ∃ N I : Nat, nv = .int .i64 (N : Int) ∧ N ≤ 40000 ∧ i = .int .i64 (I : Int) ∧ I ≤ l.length ∧ I ≤ 100 ∧ ∀ (i : Nat) a, l[i]? = some a → i < I → a.b.length ≤ 6000 ∧ a.stay.length ≤ 5000) (fun _ i => 100 - (intOf i).toNat)
  case atStart => exact ⟨0, 0, rfl, Nat.zero_le _, rfl, Nat.zero_le _, Nat.zero_le _, fun i a _ h => by omega⟩
  case round =>
    obtain ⟨N, I, rfl, hN, rfl, hI, hI3, hno⟩ := hrel
    have HNO : Hid (∀ (i : Nat) a, l[i]? = some a → i < I → a.b.length ≤ 6000 ∧ a.stay.length ≤ 5000) := hno
    clear hno
    by_cases h1 : I < l.length
    case neg =>
      have i1 : ¬ (I : Int) < (l.length : Int) := by omega
      go_wp2
      go_ret
      exact ⟨⟨false, rfl, fun _ i a ha _ => HNO.out i a ha (by have := (List.getElem?_eq_some_iff.1 ha).1; omega)⟩, rfl⟩
    by_cases h2 : I < 100
    case neg =>
      have i1 : (I : Int) < (l.length : Int) := by omega
      have i2 : ¬ (I : Int) < 100 := by omega
      go_wp2
      go_ret
      exact ⟨⟨false, rfl, fun _ i a ha hi => HNO.out i a ha (by omega)⟩, rfl⟩
    have i1 : (I : Int) < (l.length : Int) := by omega
    have i2 : (I : Int) < 100 := by omega
    have hg : l[I]? = some l[I] := List.getElem?_eq_getElem h1
    obtain ⟨A, hA⟩ : ∃ A, l[I] = A := ⟨_, rfl⟩
    rw [hA] at hg
    clear hA
    obtain ⟨q, off, rfl, hq, d0, d1, d2, bv, sv, d3, d4, hat⟩ := hc I A hg
    obtain ⟨ab, cb, rfl⟩ := Seg.shapeD hat.b
    obtain ⟨as5, cs5, rfl, hbo⟩ := hat.s
    have HG : Hid (l[I]? = some A) := hg
    have e5 : off + 5 * I + 3 = off + I * 5 + 3 := by omega
    have e6 : off + 5 * I + 4 = off + I * 5 + 4 := by omega
    rw [e5] at d3
    rw [e6] at d4
    clear hc hg hbo
    by_cases hb : 6000 < A.b.length
    · have j1 : (6000 : Int) < (A.b.length : Int) := by omega
      go_wp2
      go_ret
      exact ⟨⟨true, rfl, fun h => by cases h⟩, rfl⟩
    have j1 : ¬ (6000 : Int) < (A.b.length : Int) := by omega
    by_cases hs : 5000 < A.stay.length
    · have j2 : (5000 : Int) < (A.stay.length : Int) := by omega
      go_wp2
      go_ret
      exact ⟨⟨true, rfl, fun h => by cases h⟩, rfl⟩
    have j2 : ¬ (5000 : Int) < (A.stay.length : Int) := by omega
    by_cases hn : 40000 < N + A.b.length
    · have j3 : (40000 : Int) < (N : Int) + (A.b.length : Int) := by omega
      go_wp2
      go_ret
      exact ⟨⟨true, rfl, fun h => by cases h⟩, rfl⟩
    have j3 : ¬ (40000 : Int) < (N : Int) + (A.b.length : Int) := by omega
    go_wp2
    go_round
    case rel => exact ⟨N + A.b.length, I + 1, by go_num, by omega, by go_num, h1, h2, fun i a ha hi => by
      rcases Nat.lt_or_ge i I with h | h
      · exact HNO.out i a ha h
      · obtain rfl : i = I := by omega
        rw [HG.out] at ha
        cases ha
        omega⟩
    case measure => simp [intOf]; omega
end Go.Proofs.YtojgeahablphbaaGreat
namespace Go.Proofs.YtojgeahablphbaaGreat
open Go.RowKit

set_option maxRecDepth 100000 in
set_option maxHeartbeats 4000000 in
theorem alike7_any (w0 : World) (L : PLay) (C : Nat → Prop) (M : RLay) (D : Nat → Prop) (s : DS) (w : World) (hD : DP7 w0 w L C M D s) :
    Calls Tryz.prog 14 #[.pointer (some ⟨L.g, 0, none⟩), .pointer (some ⟨M.g, 0, none⟩)] w fun e w' => e = .returned (.bool true) ∧ Below w.heap.size w w' := by
  have hdl : (dirtyS s).length ≤ 1000000 := by have h1 := dirtyAt_len s.dirt 0; have h2 := hD.p.d.ok.dirt; have h3 := hD.p.d.lay.max; unfold dirtyS; omega
  have hnl : s.now.length = M.n := hD.r.d.ok.now
  have hmx : M.n ≤ 4096 := hD.r.d.lay.max
  go_enter Tryz.func14, Tryz.ntmps14
  go_wp2_with (first | (go_at_call 29; refine (dirty_any (L.off w C) s w hD.p.d).mono ?_; rintro e w6 ⟨v6, rfl, ho6, hb6⟩; have hD6 := hD.after hb6) | (go_at_call 32; refine (refDirty_any (M.off w6 D) s w6 hD6.r.d).mono ?_; rintro e w7 ⟨v7, rfl, ho7, hb7⟩; have hD7 := hD6.after hb7; have ho6' := ho6.after hb7 (Nat.le_refl _)) | (go_at_call 43; refine (sameInts_any _ _ _ _ w7 ho6'.at ho7.at hdl).mono ?_; rintro e w8 ⟨rfl, nq, rfl⟩) | fail)
  have hb8 : Below w.heap.size w (w7.drewN nq) := Below.drewN (hb6.trans (hb7.mono hb6.size)) nq
  have hD8 := hD.after hb8
  clear hD6 hD7 ho6 ho6' ho7 hb6 hb7 hD hdl
  generalize w7.drewN nq = W9 at *
  have KH : ∀ j, Calls Tryz.prog 22 #[.pointer (some ⟨L.g, 0, none⟩)] (W9.drewN j) fun e w' => e = .returned (.bool s.down) ∧ w' = W9.drewN j := fun j => od_off L C s _ (hD8.after (Below.drewN (Below.refl _ W9) j)).p
  obtain ⟨xv, hhm, -⟩ := hD8.r.d.head
  unfold RLay.head at hhm
  have c4 : W9.cell? ⟨M.g, 4, none⟩ = some (.bool s.down) := hhm.cell (j := 4) rfl
  clear hhm
  have key : ∀ W, Below w.heap.size w W → DP7 w0 W L C M D s → Below w.heap.size w W ∧ DP7 w0 W L C M D s ∧ W.cell? ⟨M.g, 0, none⟩ = some (.slice (some ⟨M.bn, 0, none⟩) M.n M.cn) := fun W h1 h2 => by
    obtain ⟨xv, hhm, -⟩ := h2.r.d.head
    unfold RLay.head at hhm
    exact ⟨h1, h2, hhm.cell (j := 0) rfl⟩
  have HK := fun n => key (W9.drewN n) (Below.drewN hb8 n) (hD8.after (Below.drewN (Below.refl _ W9) n))
  have HKEY : Hid (∀ W, Below w.heap.size w W → DP7 w0 W L C M D s → Below w.heap.size w W ∧ DP7 w0 W L C M D s ∧ W.cell? ⟨M.g, 0, none⟩ = some (.slice (some ⟨M.bn, 0, none⟩) M.n M.cn)) := key
  have HHK : Hid (∀ n, Below w.heap.size w (W9.drewN n) ∧ DP7 w0 (W9.drewN n) L C M D s ∧ (W9.drewN n).cell? ⟨M.g, 0, none⟩ = some (.slice (some ⟨M.bn, 0, none⟩) M.n M.cn)) := HK
  clear key HK hb8 hD8
  cases hdn : s.down
  all_goals
    rw [hdn] at KH c4
    clear hdn
    go_quiet (first | (go_at_call 22; refine Calls.quiet_of_same (KH _)))
    clear KH c4
    go_wp2_with fail
    go_loopw [6] (fun k wr => ∃ K : Nat, k = .int .i64 (K : Int) ∧ K ≤ M.n ∧ Below w.heap.size w wr ∧ DP7 w0 wr L C M D s ∧ wr.cell? ⟨M.g, 0, none⟩ = some (.slice (some ⟨M.bn, 0, none⟩) M.n M.cn)) (fun k _ => M.n - (intOf k).toNat)
    case atStart => exact ⟨0, rfl, Nat.zero_le _, HHK.out _⟩
    case round =>
      clear HHK
      obtain ⟨K, rfl, hK, hBk, hPk, cM⟩ := hrel
      by_cases hk : K < M.n
      · have j1 : (K : Int) < (M.n : Int) := by omega
        go_wp2_with fail
        refine (od_read L C s (K : Int) _ hPk.p).mono ?_
        rintro e w5 ⟨v5, rfl, ho5, hb5⟩
        have hP5 := hPk.after hb5
        have hB5 : Below w.heap.size w w5 := hBk.trans (hb5.mono hBk.size)
        go_wp2_with fail
        refine (refRead_any (M.off w5 D) s (K : Int) _ hP5.r.d).mono ?_
        rintro e w6 ⟨v6, rfl, ho6, hb6⟩
        have hP6 := hP5.after hb6
        have hB6 : Below w.heap.size w w6 := hB5.trans (hb6.mono hB5.size)
        have k1 := seg_stringD (ho5.below hb6 (Nat.le_refl _)).seg 9 Tryz.underlying9
        have k2 := seg_stringD ho6.seg 9 Tryz.underlying9
        obtain ⟨a5, c5, rfl⟩ := Seg.shapeD ho5.seg
        obtain ⟨a6, c6, rfl⟩ := Seg.shapeD ho6.seg
        clear ho5 ho6
        generalize (readS s (K : Int)).1 = BB at *
        generalize (readS s (K : Int)).2 = EE at *
        generalize (⟨BB.toArray⟩ : ByteArray) = X at k1 k2
        clear cM
        go_wp2
        go_roundw
        case rel => exact ⟨K + 1, by go_num, hk, HKEY.out _ hB6 hP6⟩
        case measure => simp [intOf]; omega
      · have j1 : ¬ (K : Int) < (M.n : Int) := by omega
        go_wp2
        go_ret
        exact ⟨rfl, hBk⟩
end Go.Proofs.YtojgeahablphbaaGreat
