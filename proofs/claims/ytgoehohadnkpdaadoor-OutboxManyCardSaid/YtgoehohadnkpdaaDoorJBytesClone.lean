/-
  What is proved here: slices.Clone on slices of bytes. reading off the program's flash. a change of the program's flash, byte by byte, until the power goes; programming and erasing. the program's flash keeps to what the laws ask of a flash.
  Conditions: those that each fact names. the flash lies in memory. none.
-/
import Derived.Test.YtgoehohadnkpdaaDoorJSegKit
import Derived.Test.YtgoehohadnkpdaaDoorJPFlash
import Derived.StillTailTactics
namespace Go.Proofs.YtgoehohadnkpdaaDoor
open Go.RowKit

theorem run_eql_nil_nilD (w : World) (l c : Nat) : (binOp .eql 35 (.slice none l c) (.slice none 0 0)).run Tryd.prog w = .ok (.bool true) w := by
  have := run_equal_slice_nil (P := Tryd.prog) w 35 5 none l c Tryd.underlying35
  simp [binOp, this]
theorem run_eql_bytes_nilD (w : World) (a : Addr) (l c : Nat) : (binOp .eql 35 (.slice (some a) l c) (.slice none 0 0)).run Tryd.prog w = .ok (.bool false) w := by
  have := run_equal_slice_nil (P := Tryd.prog) w 35 5 (some a) l c Tryd.underlying35
  simp [binOp, this]

set_option maxRecDepth 100000 in
theorem clone_anyD (x : Value) (bs : List UInt8) (w : World) (hm : bs.length ≤ 1000000000) (hseg : Seg w x bs) :
    Calls Tryd.prog 74 #[x] w fun e w' => ∃ v, e = .returned v ∧ Own w' w.heap.size v bs ∧ Below w.heap.size w w' := by
  obtain ⟨ao, c, rfl⟩ := hseg.shapeD
  cases ao with
  | none =>
    obtain ⟨hc, hn⟩ : bs = [] ∧ c = 0 := by
      rcases hseg with ⟨h, ao', c', h2, h3⟩ | ⟨b, off, c', h2, _⟩
      · simp only [Value.slice.injEq] at h2
        exact ⟨h, h2.2.2.trans (h3 h2.1.symm)⟩
      · simp at h2
    subst hc; subst hn
    have hne := run_eql_nil_nilD w 0 0
    go_enter Tryd.func74, Tryd.ntmps74
    go_wp2
    go_ret
    exact ⟨_, rfl, ⟨rfl, .inl ⟨rfl, rfl⟩⟩, Below.refl _ _⟩
  | some ad =>
    have hne := run_eql_bytes_nilD w ad bs.length c
    go_enter Tryd.func74, Tryd.ntmps74
    go_wp2_with (at_builtin; refine app_own _ rfl (.tmp 5) (.tmp 6) rfl w.heap.size _ [] rfl (by exact own_emptyD _ _ _ rfl (Nat.le_refl _)) _ bs rfl (by exact hseg.alloc _) (by simp; omega) (by simp) ?_; intro v2 w2 ho2 hg2 hv2; rw [List.nil_append] at ho2; have hB2 := below_grown ((Below.refl w.heap.size w).alloc (Nat.le_refl _) _) hg2 (by simp) (fun q hq => by have h2 : w.heap.size = q := Option.some.inj hq; omega))
    go_ret
    exact ⟨_, rfl, ho2, hB2⟩
end Go.Proofs.YtgoehohadnkpdaaDoor
namespace Go.Proofs.YtgoehohadnkpdaaDoor
open Go.RowKit

set_option maxRecDepth 100000 in
set_option maxHeartbeats 1000000 in
theorem read6_any (L : PLay6) (s : FS) (a m : Int) (w : World) (hD : PFlash w L s) :
    Calls Tryd.prog 57 #[.pointer (some ⟨L.g, 0, none⟩), .int .i64 a, .int .i64 m] w fun e w' => ∃ v, e = .returned (.tuple #[v, .int .i64 (readF s a m).2]) ∧ Own w' w.heap.size v (readF s a m).1 ∧ Below w.heap.size w w' := by
  have HS := spans6_any L s a m w hD
  obtain ⟨am, ah, le, hx, -⟩ := hD.head
  have hl := hD.len
  have hcap := hD.ok.cap
  unfold PLay6.head at hx
  have c0 := hx.cell (j := 0) rfl
  have c3 := hx.cell (j := 3) rfl
  obtain ⟨R, hR⟩ : ∃ R, R = readF s a m := ⟨_, rfl⟩
  rw [← hR]
  unfold readF at hR
  cases hd : s.down with
  | true =>
    rw [hd] at c3 hR
    have HR : Hid (R = ([], 7)) := hR
    clear hR hd HS
    go_enter Tryd.func57, Tryd.ntmps57
    go_wp2
    go_ret2
    rw [HR.out]
    exact ⟨_, rfl, ⟨rfl, .inl ⟨rfl, rfl⟩⟩, Below.refl _ _⟩
  | false =>
    rw [hd] at c3 hR
    cases ht : thereB s a m with
    | false =>
      rw [ht] at hR HS
      have HR : Hid (R = ([], 1)) := hR
      have HS' : Hid (Calls Tryd.prog 48 #[.pointer (some ⟨L.g, 0, none⟩), .int .i64 a, .int .i64 m] w fun e w' => e = .returned (.bool false) ∧ w = w') := HS
      clear hR hd HS ht
      go_enter Tryd.func57, Tryd.ntmps57
      go_wp2_with (go_at_call 48; refine HS'.out.mono ?_; rintro e w1 ⟨rfl, rfl⟩)
      go_ret2
      rw [HR.out]
      exact ⟨_, rfl, ⟨rfl, .inl ⟨rfl, rfl⟩⟩, Below.refl _ _⟩
    | true =>
      rw [ht] at hR HS
      have HR0 : R = ((s.b.drop a.toNat).take m.toNat, 0) := hR
      have HS' : Hid (Calls Tryd.prog 48 #[.pointer (some ⟨L.g, 0, none⟩), .int .i64 a, .int .i64 m] w fun e w' => e = .returned (.bool true) ∧ w = w') := HS
      unfold thereB at ht
      simp only [Bool.and_eq_true, decide_eq_true_eq] at ht
      obtain ⟨⟨⟨t1, t2⟩, t3⟩, t4⟩ := ht
      obtain ⟨A, rfl⟩ : ∃ A : Nat, a = (A : Int) := ⟨a.toNat, by omega⟩
      obtain ⟨K, rfl⟩ : ∃ K : Nat, m = (K : Int) := ⟨m.toNat, by omega⟩
      rw [Int.toNat_natCast, Int.toNat_natCast] at HR0
      have HR : Hid (R = ((s.b.drop A).take K, 0)) := HR0
      obtain ⟨M, hM⟩ : ∃ M, M = 1024 * L.n := ⟨_, rfl⟩
      rw [← hM] at c0 hl
      rw [hl] at t4
      have hAK : A + K ≤ M := by omega
      obtain ⟨E, hE⟩ : ∃ E, E = A + K := ⟨_, rfl⟩
      have hwr : IntKind.i64.wrap ((A : Int) + (K : Int)) = (E : Int) := by rw [IntKind.wrap_i64]; omega
      have hsl := slice_midD (some ⟨L.bc, 0, none⟩) M M A E (by omega) (by omega)
      rw [show E - A = K by omega] at hsl
      have hseg : Seg w (.slice (restD (some ⟨L.bc, 0, none⟩) M A) K (M - A)) ((s.b.drop A).take K) := by
        have h0 : Seg w (.slice (some ⟨L.bc, 0, none⟩) M M) s.b := Seg.of_row (fun j hj => by
          have := tab_at6 hD.b hj
          rw [Nat.zero_add, this]
          simp [hj]) hl (Nat.le_refl _) hD.b.lt
        exact ((h0.dropsD A (by omega)).takesD K (by omega)).1
      have HC : Hid (Calls Tryd.prog 74 #[.slice (restD (some ⟨L.bc, 0, none⟩) M A) K (M - A)] w fun e w' => ∃ v, e = .returned v ∧ Own w' w.heap.size v ((s.b.drop A).take K) ∧ Below w.heap.size w w') := clone_anyD _ _ w (by rw [List.length_take]; omega) hseg
      generalize restD (some ⟨L.bc, 0, none⟩) M A = RS at *
      clear hR hd HS HR0 hseg hM t1 t2 t3 t4 hAK hE hl hcap
      go_enter Tryd.func57, Tryd.ntmps57
      go_wp2_with (first | (go_at_call 48; refine HS'.out.mono ?_; rintro e w1 ⟨rfl, rfl⟩) | (go_at_call 74; refine HC.out.mono ?_; rintro e w2 ⟨v, rfl, ho, hb⟩))
      go_ret2
      rw [HR.out]
      exact ⟨_, rfl, ho, hb⟩
end Go.Proofs.YtgoehohadnkpdaaDoor
namespace Go.Proofs.YtgoehohadnkpdaaDoor
open Go.RowKit

theorem FS.ok.bytes {s : FS} {n : Nat} (h : s.ok n) (l : List UInt8) (hl : l.length = s.b.length) : ({ s with b := l } : FS).ok n := ⟨hl.trans h.b, h.worn, h.one, h.cap, h.most, h.worns, h.armed, h.done⟩
theorem goesF_not {s : FS} (h : ¬ s.armed = 0) (n : Nat) : goesF s n = (n, 0, wentF s) := by
  unfold goesF wentF
  by_cases h1 : s.armed < 0
  · rw [if_pos h1, if_neg (by omega)]
  · rw [if_neg h1, if_pos (by omega), if_pos (by omega)]
theorem goesF_is {s : FS} (h : s.armed = 0) (n : Nat) : goesF s n = ((min (n : Int) s.done).toNat, 7, { s with armed := -1, down := true }) := by
  unfold goesF
  rw [if_neg (by omega), if_neg (by omega)]
theorem wentF_parts (s : FS) : (wentF s).b = s.b ∧ (wentF s).down = s.down ∧ (wentF s).done = s.done := by
  unfold wentF
  split <;> exact ⟨rfl, rfl, rfl⟩
theorem goesF_worn (s : FS) (u : List Nat) (n : Nat) : goesF { s with worn := u } n = ((goesF s n).1, (goesF s n).2.1, { (goesF s n).2.2 with worn := u }) := by
  unfold goesF
  split
  · rfl
  · split <;> rfl
/-- The power goes. -/
theorem PFlash.goesOff {w w' : World} {L : PLay6} {t : FS} (h : PFlash w L t) (hw : w' = w.setCell ⟨L.g, 3, none⟩ (.bool true)) : PFlash w' L { t with armed := -1, down := true } ∧ Chg L.T w w' := by
  subst hw
  obtain ⟨am, ah, le, hx, ha⟩ := h.head
  have hc : Chg (fun b => b = L.g) w (w.setCell ⟨L.g, 3, none⟩ (.bool true)) := (Chg.refl (fun b => b = L.g) w).setCell L.g 3 _ (fun _ => rfl)
  refine ⟨h.chgHead hc { t with armed := -1, down := true } ⟨h.ok.b, h.ok.worn, h.ok.one, h.ok.cap, h.ok.most, h.ok.worns, by show (-1 : Int) ≤ -1 ∧ (-1 : Int) ≤ _; omega, h.ok.done⟩ ⟨rfl, rfl⟩ (am := am) (ah := ah) (le := le) ((hx.set 3 (.bool true)).of_eq (by rfl)) ⟨ha.rah, ha.rle, (fun e => by cases e), (fun e => by cases e)⟩, hc.weaken (fun _ h => .inl h)⟩

set_option maxRecDepth 100000 in
set_option maxHeartbeats 2000000 in
theorem change6_any (L : PLay6) (s : FS) (n k : Nat) (caps : Array Value) (F : Nat → List UInt8) (X : World → Prop) (w : World) (hD : PFlash w L s) (hdn : s.down = false) (hn : n ≤ 1000000) (hF0 : F 0 = s.b)
    (hent : ∀ args w, (callFunc k args).run Tryd.prog w = .ok (.enter k args) w)
    (hX0 : X w) (hXg : ∀ W W', X W → Chg (fun b => b = L.g) W W' → X W')
    (hstep : ∀ (i : Nat) (t : FS) (W : World), i < n → X W → PFlash W L t → t.b = F i → Calls Tryd.prog k (#[.int .i64 (i : Int)] ++ caps) W fun e W' => e = .returned (.tuple #[]) ∧ X W' ∧ PFlash W' L { t with b := F (i + 1) } ∧ Chg L.T W W') :
    Calls Tryd.prog 49 #[.pointer (some ⟨L.g, 0, none⟩), .int .i64 (n : Int), .func (.func k) #[] caps] w fun e w' => e = .returned (.int .i64 (goesF s n).2.1) ∧ PFlash w' L { (goesF s n).2.2 with b := F (goesF s n).1 } ∧ Chg L.T w w' := by
  have HG : Hid (Calls Tryd.prog 68 #[.pointer (some ⟨L.g, 0, none⟩)] w fun e w' => e = .returned (.bool (decide (s.armed = 0))) ∧ PFlash w' L (wentF s) ∧ Chg (fun b => b = L.g) w w') := goes6_any L s w hD hdn
  by_cases h0 : s.armed = 0
  · rw [goesF_is h0]
    rw [decide_eq_true h0, show wentF s = s by unfold wentF; rw [if_neg (by omega)]] at HG
    have hdd := hD.ok.done
    obtain ⟨M, hM⟩ : ∃ M, M = (min (n : Int) s.done).toNat := ⟨_, rfl⟩
    rw [← hM]
    have hb0 : ({ s with b := F 0 } : FS) = s := by rw [hF0]
    go_enter Tryd.func49, Tryd.ntmps49
    go_wp2_with (go_at_call 68; refine HG.out.mono ?_; rintro e w1 ⟨rfl, hD1, hc1⟩)
    have hX1 := hXg _ _ hX0 hc1
    clear HG
    go_loopw [12] (fun i wr => ∃ I : Nat, i = .int .i64 (I : Int) ∧ I ≤ M ∧ X wr ∧ PFlash wr L { s with b := F I } ∧ Chg L.T w wr) (fun i _ => n - (intOf i).toNat)
    case atStart => exact ⟨0, rfl, Nat.zero_le _, hX1, by rw [hb0]; exact hD1, hc1.weaken (fun _ h => .inl h)⟩
    case round =>
      obtain ⟨I, rfl, hI, hX, hDr, hcr⟩ := hrel
      clear hb0
      obtain ⟨am, ah, le, hx, ha⟩ := hDr.head
      have hle : s.done = max le 0 := (ha.is hdn (by show (0 : Int) ≤ s.armed; omega)).2
      unfold PLay6.head at hx
      have c3 := hx.cell (j := 3) rfl
      have f3 := hx.frozen 3
      have c6 := hx.cell (j := 6) rfl
      by_cases hlt : I < n
      · have i1 : (I : Int) < (n : Int) := by omega
        by_cases hgo : le ≤ (I : Int)
        · have HM : Hid (I = M) := by show _ = _; omega
          clear hM hI hle hdd h0 hdn
          go_wp2
          go_ret
          obtain ⟨h5, h6⟩ := hDr.goesOff rfl
          rw [← HM.out]
          exact ⟨rfl, h5, hcr.trans (S' := L.T) h6 (fun _ _ h => h)⟩
        · have HM : Hid (I + 1 ≤ M) := by show _ ≤ _; omega
          clear hM hI hle hdd h0 hdn
          go_wp2_with fail
          refine (hstep I _ wr hlt hX hDr rfl).mono ?_
          rintro e w2 ⟨rfl, hX2, hD2, hc2⟩
          go_wp2
          go_roundw
          case rel => exact ⟨I + 1, by go_num, HM.out, hX2, hD2, hcr.trans (S' := L.T) hc2 (fun _ _ h => h)⟩
          case measure => simp [intOf]; omega
      · have i1 : ¬ (I : Int) < (n : Int) := by omega
        have HM : Hid (I = M) := by show _ = _; omega
        clear hM hI hle hdd h0 hdn
        go_wp2
        go_ret
        obtain ⟨h5, h6⟩ := hDr.goesOff rfl
        rw [← HM.out]
        exact ⟨rfl, h5, hcr.trans (S' := L.T) h6 (fun _ _ h => h)⟩
  · rw [goesF_not h0]
    rw [decide_eq_false h0] at HG
    have wb : Hid ((wentF s).b = s.b) := (wentF_parts s).1
    generalize wentF s = t0 at *
    clear hdn
    go_enter Tryd.func49, Tryd.ntmps49
    go_wp2_with (go_at_call 68; refine HG.out.mono ?_; rintro e w1 ⟨rfl, hD1, hc1⟩)
    have hX1 := hXg _ _ hX0 hc1
    clear HG
    go_loopw [12] (fun i wr => ∃ I : Nat, i = .int .i64 (I : Int) ∧ I ≤ n ∧ X wr ∧ PFlash wr L { t0 with b := F I } ∧ Chg L.T w wr) (fun i _ => n - (intOf i).toNat)
    case atStart => exact ⟨0, rfl, Nat.zero_le _, hX1, by rw [hF0, ← wb.out]; exact hD1, hc1.weaken (fun _ h => .inl h)⟩
    case round =>
      obtain ⟨I, rfl, hI, hX, hDr, hcr⟩ := hrel
      by_cases hlt : I < n
      · have i1 : (I : Int) < (n : Int) := by omega
        go_wp2_with fail
        refine (hstep I _ wr hlt hX hDr rfl).mono ?_
        rintro e w2 ⟨rfl, hX2, hD2, hc2⟩
        go_wp2
        go_roundw
        case rel => exact ⟨I + 1, by go_num, hlt, hX2, hD2, hcr.trans (S' := L.T) hc2 (fun _ _ h => h)⟩
        case measure => simp [intOf]; omega
      · have i1 : ¬ (I : Int) < (n : Int) := by omega
        obtain rfl : I = n := by omega
        go_wp2
        go_ret
        exact ⟨rfl, hDr, hcr⟩

/-- What the bytes' own function captured. -/
structure Caps (L : PLay6) (q0 q1 q2 A : Nat) (x : Value) (bs : List UInt8) (W : World) : Prop where
  k0 : Blk W q0 27 #[.pointer (some ⟨L.g, 0, none⟩)]
  k1 : Blk W q1 3 #[.int .i64 (A : Int)]
  k2 : Blk W q2 35 #[x]
  n0 : ¬ L.T q0
  n1 : ¬ L.T q1
  n2 : ¬ L.T q2
  s : Seg W x bs
  a : 0 < bs.length → ∀ q, x.ownBlock = some q → ¬ L.T q
theorem Caps.chg {L : PLay6} {q0 q1 q2 A : Nat} {x : Value} {bs : List UInt8} {W W' : World} (h : Caps L q0 q1 q2 A x bs W) (hc : Chg L.T W W') : Caps L q0 q1 q2 A x bs W' :=
  ⟨h.k0.chg hc h.n0, h.k1.chg hc h.n1, h.k2.chg hc h.n2, h.n0, h.n1, h.n2, h.s.chg hc h.a, h.a⟩

set_option maxRecDepth 100000 in
set_option maxHeartbeats 2000000 in
theorem program1_any (L : PLay6) (t : FS) (q0 q1 q2 A I : Nat) (x : Value) (bs l : List UInt8) (w : World) (hD : PFlash w L t) (hC : Caps L q0 q1 q2 A x bs w) (hI : I < bs.length) (hl : l.length = t.b.length) (hA : A + bs.length ≤ l.length) (ht : t.b = progL l A bs I) :
    Calls Tryd.prog 50 #[.int .i64 (I : Int), .pointer (some ⟨q0, 0, none⟩), .pointer (some ⟨q1, 0, none⟩), .pointer (some ⟨q2, 0, none⟩)] w fun e w' => e = .returned (.tuple #[]) ∧ Caps L q0 q1 q2 A x bs w' ∧ PFlash w' L { t with b := progL l A bs (I + 1) } ∧ Chg L.T w w' := by
  have hlen := hD.len
  have hcap := hD.ok.cap
  obtain ⟨am, ah, le, hx, -⟩ := hD.head
  unfold PLay6.head at hx
  have c0 := hx.cell (j := 0) rfl
  have d0 := hC.k0.cell (j := 0) rfl
  have d1 := hC.k1.cell (j := 0) rfl
  have d2 := hC.k2.cell (j := 0) rfl
  obtain ⟨ab, cb, rfl⟩ := Seg.shapeD hC.s
  obtain ⟨b, off, rfl, hbc, hrow, hbl⟩ := hC.s.formD (by omega)
  have e1 : w.cell? ⟨b, off + I, none⟩ = some (v8 (bs.getD I 0)) := by
    rw [hrow I hI]; simp [hI]
  have hk : A + I < t.b.length := by omega
  have e2 := tab_at6 hD.b hk
  have f2 := hD.b.frozen (A + I)
  have hset := hD.setByte (A + I) (t.b.getD (A + I) 0 &&& bs.getD I 0)
  have hbits := bits_and8 (t.b.getD (A + I) 0) (bs.getD I 0)
  have HS : Hid (t.b.set (A + I) (t.b.getD (A + I) 0 &&& bs.getD I 0) = progL l A bs (I + 1)) := by show _ = _; rw [ht]; exact progL_step l A bs I (by omega)
  obtain ⟨M, hM⟩ : ∃ M, M = 1024 * L.n := ⟨_, rfl⟩
  rw [← hM] at c0
  obtain ⟨P, hP⟩ : ∃ P, P = A + I := ⟨_, rfl⟩
  have hwr : IntKind.i64.wrap ((A : Int) + (I : Int)) = (P : Int) := by rw [IntKind.wrap_i64]; omega
  rw [← hP] at hset hbits HS e2 f2
  have hPM : (P : Int) < (M : Int) := by omega
  have hIb : (I : Int) < (bs.length : Int) := by omega
  have hix := index_bytesZ L.bc 0 M M (P : Int) P rfl (by omega)
  rw [Nat.zero_add] at hix
  have hiy := index_bytesZ b off bs.length cb (I : Int) I rfl hI
  have hc : Chg L.T w (w.setCell ⟨L.bc, P, none⟩ (v8 (t.b.getD P 0 &&& bs.getD I 0))) := (Chg.refl _ w).setCell L.bc P _ (fun _ => .inr (.inl rfl))
  have hcd := hc.drew
  clear hk ht hlen hM hP hcap hA hl
  generalize t.b.getD P 0 = u at *
  generalize bs.getD I 0 = v at *
  go_enter Tryd.func50, Tryd.ntmps50
  go_still_tail 14, (by kernel_rfl)
  go_wp2
  go_end0
  rw [HS.out] at hset
  exact ⟨rfl, hC.chg hcd, hset.after (Below.drew (Below.refl _ _)), hcd⟩

set_option maxRecDepth 100000 in
set_option maxHeartbeats 2000000 in
theorem program6_any (L : PLay6) (s : FS) (a : Int) (x : Value) (bs : List UInt8) (w : World) (hD : PFlash w L s) (hS : Seg w x bs) (hx : 0 < bs.length → ∀ q, x.ownBlock = some q → ¬ L.T q) :
    Calls Tryd.prog 29 #[.pointer (some ⟨L.g, 0, none⟩), .int .i64 a, x] w fun e w' => e = .returned (.int .i64 (programF s a bs).1) ∧ PFlash w' L (programF s a bs).2 ∧ Chg L.T w w' := by
  obtain ⟨ab, cb, rfl⟩ := Seg.shapeD hS
  obtain ⟨W, hW⟩ : ∃ W, W = ((w.alloc (.cells #[.pointer (some ⟨L.g, 0, none⟩)] 27)).alloc (.cells #[.int .i64 a] 3)).alloc (.cells #[.slice ab bs.length cb] 35) := ⟨_, rfl⟩
  have hBW : Below w.heap.size w W := by
    rw [hW]
    exact (((Below.refl _ w).alloc (Nat.le_refl _) _).alloc (by simp) _).alloc (by simp; omega) _
  have hDW := hD.after hBW
  have hSW := hS.below hBW (Nat.le_refl _)
  have hCW : Chg L.T w W := Chg.of_below hBW (Nat.le_refl _)
  have k0 : Blk W w.heap.size 27 #[.pointer (some ⟨L.g, 0, none⟩)] := by rw [hW]; exact ((Blk.new w _ _).alloc _).alloc _
  have k1 : Blk W (w.heap.size + 1) 3 #[.int .i64 a] := by rw [hW]; exact (Blk.newAt _ _ _ _ (by simp)).alloc _
  have k2 : Blk W (w.heap.size + 1 + 1) 35 #[.slice ab bs.length cb] := by rw [hW]; exact Blk.newAt _ _ _ _ (by simp)
  have hT : ∀ q, L.T q → q < w.heap.size := hD.lt
  have HS := spans6_any L s a bs.length W hDW
  obtain ⟨R, hR⟩ : ∃ R, R = programF s a bs := ⟨_, rfl⟩
  rw [← hR]
  unfold programF at hR
  have d0 := k0.cell (j := 0) rfl
  have d1 := k1.cell (j := 0) rfl
  have d2 := k2.cell (j := 0) rfl
  go_enter Tryd.func29, Tryd.ntmps29
  go_wp2_with fail
  rw [← hW]
  clear hW hBW hS hD
  refine HS.mono ?_
  rintro e w1 ⟨rfl, rfl⟩
  clear HS
  cases ht : thereB s a bs.length with
  | false =>
    rw [ht] at hR
    have HR : Hid (R = (1, s)) := hR
    clear hR ht
    go_wp2
    go_ret
    rw [HR.out]
    exact ⟨rfl, hDW, hCW⟩
  | true =>
    rw [ht] at hR
    obtain ⟨am, ah, le, hh, -⟩ := hDW.head
    unfold PLay6.head at hh
    have c3 := hh.cell (j := 3) rfl
    cases hd : s.down with
    | true =>
      rw [hd] at c3 hR
      have HR : Hid (R = (7, s)) := hR
      clear hR ht hd
      go_wp2
      go_ret
      rw [HR.out]
      exact ⟨rfl, hDW, hCW⟩
    | false =>
      rw [hd] at c3 hR
      have HR0 : R = ((goesF s bs.length).2.1, { (goesF s bs.length).2.2 with b := progL s.b a.toNat bs (goesF s bs.length).1 }) := hR
      unfold thereB at ht
      simp only [Bool.and_eq_true, decide_eq_true_eq] at ht
      obtain ⟨⟨⟨t1, t2⟩, t3⟩, t4⟩ := ht
      obtain ⟨A, rfl⟩ : ∃ A : Nat, a = (A : Int) := ⟨a.toNat, by omega⟩
      rw [Int.toNat_natCast] at HR0
      have HR : Hid (R = ((goesF s bs.length).2.1, { (goesF s bs.length).2.2 with b := progL s.b A bs (goesF s bs.length).1 })) := HR0
      have hC : Caps L w.heap.size (w.heap.size + 1) (w.heap.size + 1 + 1) A (.slice ab bs.length cb) bs W := ⟨k0, k1, k2, fun e => by have := hT _ e; omega, fun e => by have := hT _ e; omega, fun e => by have := hT _ e; omega, hSW, hx⟩
      have HC : Hid (Calls Tryd.prog 49 #[.pointer (some ⟨L.g, 0, none⟩), .int .i64 (bs.length : Int), .func (.func 50) #[] #[.pointer (some ⟨w.heap.size, 0, none⟩), .pointer (some ⟨w.heap.size + 1, 0, none⟩), .pointer (some ⟨w.heap.size + 1 + 1, 0, none⟩)]] W fun e w' => e = .returned (.int .i64 (goesF s bs.length).2.1) ∧ PFlash w' L { (goesF s bs.length).2.2 with b := progL s.b A bs (goesF s bs.length).1 } ∧ Chg L.T W w') :=
        change6_any L s bs.length 50 _ (fun i => progL s.b A bs i) (fun V => Caps L w.heap.size (w.heap.size + 1) (w.heap.size + 1 + 1) A (.slice ab bs.length cb) bs V ∧ True) W hDW hd (by omega) (progL_zero _ _ _) Tryd.call50 ⟨hC, trivial⟩ (fun V V' h hc => ⟨h.1.chg (hc.weaken (fun _ h => .inl h)), trivial⟩) (fun i t V hi hX hV ht => by
          have hl : s.b.length = t.b.length := by rw [ht, progL_len]
          exact (program1_any L t _ _ _ A i _ bs s.b V hV hX.1 hi hl (by omega) ht).mono fun e V' h => ⟨h.1, ⟨h.2.1, trivial⟩, h.2.2⟩)
      clear hR HR0 hd hC t1 t2 t3 t4
      generalize goesF s bs.length = G at *
      go_wp2_with (go_at_call 49; refine HC.out.mono ?_; rintro e w2 ⟨rfl, hD2, hc2⟩)
      go_ret
      rw [HR.out]
      exact ⟨rfl, hD2, hCW.trans (S' := L.T) hc2 (fun _ _ h => h)⟩

set_option maxRecDepth 100000 in
set_option maxHeartbeats 2000000 in
theorem erase1_any (L : PLay6) (t : FS) (q K I : Nat) (l : List UInt8) (w : World) (hD : PFlash w L t) (hq : Blk w q 35 #[.slice (some ⟨L.bc, 1024 * K, none⟩) (1024 * L.n - 1024 * K) (1024 * L.n - 1024 * K)]) (hn : ¬ L.T q) (hI : I < 1024) (hK : K < L.n) (hl : l.length = t.b.length) (ht : t.b = onesL l (1024 * K) I) :
    Calls Tryd.prog 67 #[.int .i64 (I : Int), .pointer (some ⟨q, 0, none⟩)] w fun e w' => e = .returned (.tuple #[]) ∧ Blk w' q 35 #[.slice (some ⟨L.bc, 1024 * K, none⟩) (1024 * L.n - 1024 * K) (1024 * L.n - 1024 * K)] ∧ PFlash w' L { t with b := onesL l (1024 * K) (I + 1) } ∧ Chg L.T w w' := by
  have hlen := hD.len
  have d0 := hq.cell (j := 0) rfl
  have hk : 1024 * K + I < t.b.length := by omega
  have e2 := tab_at6 hD.b hk
  have f2 := hD.b.frozen (1024 * K + I)
  have hset := hD.setByte (1024 * K + I) 255
  have HS : Hid (t.b.set (1024 * K + I) 255 = onesL l (1024 * K) (I + 1)) := by show _ = _; rw [ht]; exact onesL_step l (1024 * K) I (by omega)
  have hix := index_bytesZ L.bc (1024 * K) (1024 * L.n - 1024 * K) (1024 * L.n - 1024 * K) (I : Int) I rfl (by omega)
  obtain ⟨B, hB⟩ : ∃ B, B = 1024 * K := ⟨_, rfl⟩
  obtain ⟨M, hM⟩ : ∃ M, M = 1024 * L.n - 1024 * K := ⟨_, rfl⟩
  rw [← hM, ← hB] at hq d0 hix
  rw [← hB] at e2 f2 hset HS
  rw [← hM, ← hB]
  have hc : Chg L.T w (w.setCell ⟨L.bc, B + I, none⟩ (v8 255)) := (Chg.refl _ w).setCell L.bc _ _ (fun _ => .inr (.inl rfl))
  clear hk ht hlen hM hB hl
  go_enter Tryd.func67, Tryd.ntmps67
  go_wp2
  go_end0
  rw [HS.out] at hset
  exact ⟨rfl, hq.chg hc hn, hset, hc⟩

set_option maxRecDepth 100000 in
set_option maxHeartbeats 4000000 in
theorem erase6_any (L : PLay6) (s : FS) (k : Int) (w : World) (hD : PFlash w L s) :
    Calls Tryd.prog 47 #[.pointer (some ⟨L.g, 0, none⟩), .int .i64 k] w fun e w' => e = .returned (.int .i64 (eraseF s k).1) ∧ PFlash w' L (eraseF s k).2 ∧ Chg L.T w w' := by
  have HH := has6_any L s k w hD
  have hlen := hD.len
  have hcap := hD.ok.cap
  have hmo := hD.ok.most
  have hwl := hD.ok.worn
  obtain ⟨am, ah, le, hx, -⟩ := hD.head
  unfold PLay6.head at hx
  have c0 := hx.cell (j := 0) rfl
  have c1 := hx.cell (j := 1) rfl
  have c2 := hx.cell (j := 2) rfl
  have c3 := hx.cell (j := 3) rfl
  obtain ⟨R, hR⟩ : ∃ R, R = eraseF s k := ⟨_, rfl⟩
  rw [← hR]
  unfold eraseF at hR
  rw [hwl] at hR
  by_cases hk : k < 0 ∨ (L.n : Int) ≤ k
  · have HR : Hid (R = (1, s)) := by show _ = _; rw [hR, if_pos hk]
    rw [show hasB6 L.n k = false by unfold hasB6; simp; omega] at HH
    have HH' : Hid (Calls Tryd.prog 66 #[.pointer (some ⟨L.g, 0, none⟩), .int .i64 k] w fun e w' => e = .returned (.bool false) ∧ w = w') := HH
    clear hR hk HH
    go_enter Tryd.func47, Tryd.ntmps47
    go_wp2_with (go_at_call 66; refine HH'.out.mono ?_; rintro e w1 ⟨rfl, rfl⟩)
    go_ret
    rw [HR.out]
    exact ⟨rfl, hD, Chg.refl _ _⟩
  rw [if_neg hk] at hR
  obtain ⟨K, rfl⟩ : ∃ K : Nat, k = (K : Int) := ⟨k.toNat, by omega⟩
  rw [show hasB6 L.n (K : Int) = true by unfold hasB6; simp; omega] at HH
  have HH' : Hid (Calls Tryd.prog 66 #[.pointer (some ⟨L.g, 0, none⟩), .int .i64 (K : Int)] w fun e w' => e = .returned (.bool true) ∧ w = w') := HH
  have hKn : K < L.n := by omega
  have hkm : (K : Int) < (L.n : Int) := by omega
  rw [Int.toNat_natCast] at hR
  clear hk HH
  cases hd : s.down with
  | true =>
    rw [hd] at c3 hR
    have HR : Hid (R = (7, s)) := hR
    clear hR hd
    go_enter Tryd.func47, Tryd.ntmps47
    go_wp2_with (go_at_call 66; refine HH'.out.mono ?_; rintro e w1 ⟨rfl, rfl⟩)
    go_ret
    rw [HR.out]
    exact ⟨rfl, hD, Chg.refl _ _⟩
  | false =>
    rw [hd] at c3 hR
    have d1 := hD.worn.cell (wornV_at (l := s.worn) (k := K) (by omega))
    by_cases hw : s.most ≤ s.worn.getD K 0
    · have HR : Hid (R = (8, s)) := by show _ = _; rw [hR, if_neg (by simp), if_pos hw]
      have hw' : (s.most : Int) ≤ ((s.worn.getD K 0 : Nat) : Int) := by omega
      clear hR hd
      generalize s.worn.getD K 0 = X at *
      go_enter Tryd.func47, Tryd.ntmps47
      go_wp2_with (go_at_call 66; refine HH'.out.mono ?_; rintro e w1 ⟨rfl, rfl⟩)
      go_still (by kernel_rfl)
      go_wp2
      go_ret
      rw [HR.out]
      exact ⟨rfl, hD.after ((Below.refl _ _).drew), (Chg.refl _ _).drew⟩
    · have hw' : ¬ (s.most : Int) ≤ ((s.worn.getD K 0 : Nat) : Int) := by omega
      have HR : Hid (R = ((goesF s 1024).2.1, { (goesF s 1024).2.2 with b := onesL s.b (1024 * K) (goesF s 1024).1, worn := s.worn.set K (s.worn.getD K 0 + 1) })) := by show _ = _; rw [hR, if_neg (by simp), if_neg hw]
      have hset := hD.setWorn K (s.worn.getD K 0 + 1) (by omega)
      have f1 := hD.worn.frozen K
      clear hR
      obtain ⟨V, hV⟩ : ∃ V, V = s.worn.getD K 0 := ⟨_, rfl⟩
      rw [← hV] at HR hset d1 hw'
      have hVb : V ≤ 10000 := by omega
      clear hV hw
      obtain ⟨M, hM⟩ : ∃ M, M = 1024 * L.n := ⟨_, rfl⟩
      obtain ⟨P, hP⟩ : ∃ P, P = 1024 * K := ⟨_, rfl⟩
      have hwr : IntKind.i64.wrap ((K : Int) * 1024) = (P : Int) := by rw [IntKind.wrap_i64]; omega
      have hsl := slice_restD (some ⟨L.bc, 0, none⟩) M M P (by omega)
      rw [show restD (some ⟨L.bc, 0, none⟩) M P = some ⟨L.bc, P, none⟩ by unfold restD; rw [if_neg (by omega), Option.map_some, Addr.add_mid, Nat.mul_one, Nat.zero_add]] at hsl
      have x0 : (w.setCell ⟨L.bw, K, none⟩ (.int .i64 ((V : Int) + 1))).cell? ⟨L.g, 0, none⟩ = some (.slice (some ⟨L.bc, 0, none⟩) M M) := by rw [hM]; exact (hx.setOther ⟨L.bw, K, none⟩ _ hD.gw).cell (j := 0) rfl
      have hset0 : PFlash (w.setCell ⟨L.bw, K, none⟩ (.int .i64 ((V : Int) + 1))) L { s with worn := s.worn.set K (V + 1) } := by rw [show (V : Int) + 1 = ((V + 1 : Nat) : Int) by omega]; exact hset
      have HD1 : Hid (PFlash (w.setCell ⟨L.bw, K, none⟩ (.int .i64 ((V : Int) + 1))) L { s with worn := s.worn.set K (V + 1) }) := hset0
      clear hset hset0
      have HM : Hid (M = 1024 * L.n) := hM
      have HP : Hid (P = 1024 * K) := hP
      have HL : Hid (s.b.length = 1024 * L.n) := hlen
      clear hM hP hlen hcap hmo hx c0
      go_enter Tryd.func47, Tryd.ntmps47
      go_wp2_with (go_at_call 66; refine HH'.out.mono ?_; rintro e w1 ⟨rfl, rfl⟩)
      go_still (by kernel_rfl)
      go_wp2_with fail
      have hD1 := HD1.out
      have hc1 : Chg L.T w (w.setCell ⟨L.bw, K, none⟩ (.int .i64 ((V : Int) + 1))) := (Chg.refl _ w).setCell L.bw K _ (fun _ => .inr (.inr rfl))
      have hs1 : (w.setCell ⟨L.bw, K, none⟩ (.int .i64 ((V : Int) + 1))).heap.size = w.heap.size := by simp
      generalize w.setCell ⟨L.bw, K, none⟩ (.int .i64 ((V : Int) + 1)) = W1 at *
      have hb2 : Below W1.heap.size W1 (W1.alloc (.cells #[.slice (some ⟨L.bc, P, none⟩) (M - P) (M - P)] 35)).drew := ((Below.refl _ W1).alloc (Nat.le_refl _) _).drew
      have hq : Blk (W1.alloc (.cells #[.slice (some ⟨L.bc, P, none⟩) (M - P) (M - P)] 35)).drew w.heap.size 35 #[.slice (some ⟨L.bc, P, none⟩) (M - P) (M - P)] := (Blk.newAt _ _ _ _ hs1.symm).drew
      have hD2 := hD1.after hb2
      have hc2 : Chg L.T w (W1.alloc (.cells #[.slice (some ⟨L.bc, P, none⟩) (M - P) (M - P)] 35)).drew := hc1.trans (S' := L.T) (Chg.of_below hb2 (Nat.le_refl _)) (fun _ _ h => h)
      have hnT : ¬ L.T w.heap.size := fun e => by have := hD.lt _ e; omega
      generalize (W1.alloc (.cells #[.slice (some ⟨L.bc, P, none⟩) (M - P) (M - P)] 35)).drew = W2 at *
      rw [HM.out, HP.out] at hq
      have hent := Tryd.call67
      have HC := change6_any L { s with worn := s.worn.set K (V + 1) } 1024 67 #[.pointer (some ⟨w.heap.size, 0, none⟩)] (fun i => onesL s.b (1024 * K) i) (fun U => Blk U w.heap.size 35 #[.slice (some ⟨L.bc, 1024 * K, none⟩) (1024 * L.n - 1024 * K) (1024 * L.n - 1024 * K)]) W2 hD2 hd (by omega) (onesL_zero _ _) hent hq (fun U U' h hc => h.chg hc (fun e => hnT (.inl e))) (fun i t U hi hX hU ht => by
          have hl : s.b.length = t.b.length := by rw [ht, onesL_len]
          exact erase1_any L t w.heap.size K i s.b U hU hX hnT hi hKn hl ht)
      rw [goesF_worn] at HC
      refine HC.mono ?_
      clear HC hent
      rintro e w3 ⟨rfl, hD3, hc3⟩
      go_wp2
      go_ret
      rw [HR.out]
      exact ⟨rfl, hD3, hc2.trans (S' := L.T) hc3 (fun _ _ h => h)⟩
end Go.Proofs.YtgoehohadnkpdaaDoor
namespace Go.Proofs.YtgoehohadnkpdaaDoor
open Go.RowKit

def thePF : PF where
  Lay := PLay6
  g := fun L => L.g
  T := fun L => L.T
  Rel := PFlash
  n := fun L => L.n
  ok := fun h => h.ok
  lt := fun h => h.lt
  chg := fun h hc hT => h.chg hc hT
  new_bad := fun n k w _ _ h => new6_bad n k w h
  new_any := fun m k w h1 h2 h3 h4 => new6_any m k w h1 h2 h3 h4
  read := fun L s a m w h _ _ => read6_any L s a m w h
  program := fun L s a x bs w h _ hS _ hx => program6_any L s a x bs w h hS hx
  erase := fun L s b w h _ => erase6_any L s b w h
  arm := fun L s c d w h hc hd => arm6_any L s c d w h hc hd
  power := fun L s w h => power6_any L s w h
end Go.Proofs.YtgoehohadnkpdaaDoor
