/-
  What is proved here: the document's log: the state and the records that bytes tell.
  Conditions: the bytes lie in memory.
-/
import Derived.Test.YtojgeahablphbaaJRefWal
import Derived.Test.YtojgeahablphbaaJWalTell
import Derived.Test.YtojgeahablphbaaJBlkNe
import Derived.Deep.Cut
import Derived.Deep.DeepCutAuto
namespace Go.Proofs.Ytojgeahablphbaa
open Go.RowKit

theorem slice_mid8 (ao : Option Addr) (len c lo hi : Nat) (h : lo ≤ hi) (hc : hi ≤ c) (w : World) : (Instr.slice 22 (.slice ao len c) (some (.int .i64 (lo : Int))) (some (.int .i64 (hi : Int))) none).run Try.prog w = .ok (.slice (restD ao c lo) (hi - lo) (c - lo)) w := by
  rw [run_slice_lh w 22 ao len c (by rw [elem_bytesD]; exact Try.underlying22) .i64 .i64 lo hi (by omega) (by omega) (by omega), elem_bytesD, size_byteD]
  simp only [Result.andThen_ok, sliced, Int.toNat_natCast, restD]
def lenOf7 : Value → Nat
  | .slice _ n _ => n
  | _ => 0
/-- How it stands in the loop. -/
structure TellI (bs : List UInt8) (t : TS) : Prop where
  same : tellT t = tellB bs
  state : t.state.length + t.b.length ≤ bs.length
  recs : t.recs.length + t.b.length ≤ bs.length
theorem TellI.step {bs : List UInt8} {t : TS} (h : TellI bs t) (hf : fitsT t = true) : TellI bs (stepT t) := by
  obtain ⟨h1, h2⟩ := fitsT_len hf
  have hb := stepT_b t
  have hl : (pieceT t).length ≤ of4 (t.b.drop 1) := by unfold pieceT; rw [List.length_take]; omega
  refine ⟨by rw [← tellT_step hf]; exact h.same, ?_, ?_⟩
  · have := h.state
    rw [hb, List.length_drop]
    unfold stepT
    split
    · show t.state.length + _ ≤ _; omega
    · show (t.state ++ pieceT t).length + _ ≤ _; rw [List.length_append]; omega
  · have := h.recs
    rw [hb, List.length_drop]
    unfold stepT
    split
    · show (t.recs ++ [pieceT t]).length + _ ≤ _; rw [List.length_append, List.length_singleton]; omega
    · show t.recs.length + _ ≤ _; omega
theorem TellI.stop {bs : List UInt8} {t : TS} (h : TellI bs t) (hf : fitsT t = false) : toldB bs = if t.whole then (t.state, t.recs) else ([], []) := by
  unfold toldB
  rw [← h.same, tellT_stop hf]
/-- Does what stands ahead end it? -/
def brkB (t : TS) (c n : Nat) : Bool := decide (4096 < n) || decide ((t.b.length : Int) - 5 < (n : Int)) || decide (c < 1) || decide (3 < c) || (t.whole != decide (c = 3))
theorem brkB_fits {t : TS} (h5 : 5 ≤ t.b.length) : brkB t (t.b.getD 0 0).toNat (of4 (t.b.drop 1)) = !fitsT t := by
  unfold brkB fitsT
  generalize of4 (t.b.drop 1) = n
  generalize (t.b.getD 0 0).toNat = c
  rw [decide_eq_true h5]
  by_cases a1 : n ≤ 4096
  · by_cases a2 : n ≤ t.b.length - 5
    · by_cases a3 : 1 ≤ c
      · by_cases a4 : c ≤ 3
        · rw [decide_eq_false (by omega), decide_eq_false (by omega), decide_eq_false (by omega), decide_eq_false (by omega), decide_eq_true a1, decide_eq_true a2, decide_eq_true a3, decide_eq_true a4]
          cases t.whole <;> by_cases a5 : c = 3 <;> simp [a5]
        · rw [decide_eq_true (by omega : 3 < c), decide_eq_false a4]; simp
      · rw [decide_eq_true (by omega : c < 1), decide_eq_false a3]; simp
    · rw [decide_eq_true (by omega : (t.b.length : Int) - 5 < (n : Int)), decide_eq_false a2]; simp
  · rw [decide_eq_true (by omega : 4096 < n), decide_eq_false a1]; simp

set_option maxRecDepth 100000 in
set_option maxHeartbeats 8000000 in
theorem told7_any (x : Value) (bs : List UInt8) (w : World) (hS : Seg w x bs) (hl : bs.length ≤ 1000000) :
    Calls Try.prog 26 #[x] w fun e w' => ∃ sv rv vs, e = .returned (.tuple #[sv, rv]) ∧ Own w' w.heap.size sv (toldB bs).1 ∧ Gat w' w.heap.size rv vs (toldB bs).2 ∧ Below w.heap.size w w' := by
  obtain ⟨ab, cb, rfl⟩ := Seg.shapeD hS
  have hI0 : TellI bs ⟨bs, [], [], false⟩ := ⟨rfl, by show 0 + bs.length ≤ _; omega, by show 0 + bs.length ≤ _; omega⟩
  go_enter Try.func26, Try.ntmps26
  go_wp2_with fail
  go_loopw [0, 4, 5, 6] (fun bv sv rv wv wr => ∃ (t : TS) (a : Option Addr) (c : Nat) (vs : List Value), bv = .slice a t.b.length c ∧ Seg w (.slice a t.b.length c) t.b ∧ Own wr w.heap.size sv t.state ∧ Gat wr w.heap.size rv vs t.recs ∧ wv = .bool t.whole ∧ TellI bs t ∧ (t.whole = false → rv = .slice none 0 0 ∧ t.recs = []) ∧ Below w.heap.size w wr) (fun bv _ _ _ _ => lenOf7 bv)
  case atStart => exact ⟨⟨bs, [], [], false⟩, ab, cb, [], rfl, hS, ⟨rfl, .inl ⟨rfl, rfl⟩⟩, Gat.nil _ _, rfl, hI0, fun _ => ⟨rfl, rfl⟩, Below.refl _ _⟩
  case round =>
    obtain ⟨t, a, c, vs, rfl, hs, hO, hG, rfl, hI, hno, hB⟩ := hrel
    have HNO : Hid (t.whole = false → _ ∧ t.recs = []) := hno
    clear hno
    clear hI0 hS
    by_cases h5 : 5 ≤ t.b.length
    case neg =>
      have i1 : ¬ (5 : Int) ≤ (t.b.length : Int) := by omega
      have HF := hI.stop (by unfold fitsT; rw [decide_eq_false h5]; rfl)
      cases hw : t.whole with
      | true =>
        rw [hw] at HF
        have HF' : Hid (toldB bs = (t.state, t.recs)) := HF
        clear HF
        go_wp2
        go_ret2
        rw [HF'.out]
        exact ⟨_, _, rfl, hO, ⟨_, hG⟩, hB⟩
      | false =>
        rw [hw] at HF
        have HF' : Hid (toldB bs = ([], [])) := HF
        clear HF
        go_wp2
        go_ret2
        rw [HF'.out]
        exact ⟨_, _, rfl, ⟨rfl, .inl ⟨rfl, rfl⟩⟩, ⟨_, Gat.nil _ _⟩, hB⟩
    have i1 : (5 : Int) ≤ (t.b.length : Int) := by omega
    have hbl : t.b.length ≤ 1000000 := by have := hI.state; omega
    obtain ⟨qb, qo, rfl, hqc, hrow, hql⟩ := hs.formD (by omega)
    obtain ⟨C, hC⟩ : ∃ C, C = (t.b.getD 0 0).toNat := ⟨_, rfl⟩
    obtain ⟨N, hN⟩ : ∃ N, N = of4 (t.b.drop 1) := ⟨_, rfl⟩
    have hC2 : C < 256 := by rw [hC]; exact (t.b.getD 0 0).toNat_lt
    have hN2 : N < 4294967296 := by rw [hN]; exact of4_lt _
    have hsr := hs.below hB (Nat.le_refl _)
    have d0 : wr.cell? ⟨qb, qo, none⟩ = some (.int .u8 (C : Int)) := by
      rw [hB.cell (p := ⟨qb, qo, none⟩) hql]
      have := hrow 0 (by omega)
      rw [Nat.add_zero] at this
      rw [this, hC]
      simp [n8, show 0 < t.b.length by omega]
    have ix := index7 qb qo t.b.length c 0 0 rfl (by omega)
    obtain ⟨r1, hr1⟩ : ∃ r1, r1 = Value.slice (restD (some ⟨qb, qo, none⟩) c 1) (t.b.length - 1) (c - 1) := ⟨_, rfl⟩
    have l1 : ∀ V, (Instr.slice 22 (.slice (some ⟨qb, qo, none⟩) t.b.length c) (some (.int .i64 1)) none none).run Try.prog V = .ok r1 V := fun V => by rw [hr1]; exact slice_restD _ t.b.length c 1 (by omega) V
    have HO : Hid (Calls Try.prog 40 #[r1] wr fun e w' => e = .returned (.int .i64 (N : Int)) ∧ Below wr.heap.size wr w') := by
      have := of7_any r1 (t.b.drop 1) wr (by rw [hr1]; exact hsr.dropsD 1 (by omega)) (by rw [List.length_drop]; omega)
      rw [← hN] at this
      exact this
    have HBR : Hid (brkB t C N = !fitsT t) := by show _ = _; rw [hC, hN]; exact brkB_fits h5
    have HPT : Hid (pieceT t = (t.b.drop 5).take N) := by show _ = _; unfold pieceT; rw [hN]
    have HST : Hid (stepT t = if C = 3 then { t with b := t.b.drop (5 + N), recs := t.recs ++ [pieceT t] } else { t with b := t.b.drop (5 + N), state := t.state ++ pieceT t, whole := decide (C = 2) }) := by show _ = _; unfold stepT; rw [hC, hN]
    clear hr1 hrow hC hN
    go_upto_region 7 with (go_at_call 40; refine HO.out.mono ?_; rintro e w2 ⟨rfl, hb2⟩)
    have hB2 : Below w.heap.size w w2 := hB.trans (hb2.mono hB.size)
    go_cut [6, 42] from 20 to 63 (fun s6 s42 wx => s6 = .bool t.whole ∧ s42 = .bool (brkB t C N) ∧ w2 = wx)
    case first =>
      by_cases a1 : 4096 < N
      · have HV : Hid (brkB t C N = true) := by show _ = _; unfold brkB; rw [decide_eq_true a1]; rfl
        have j1 : (4096 : Int) < (N : Int) := by omega
        go_wp2
        go_meet
        exact ⟨rfl, by rw [HV.out], rfl⟩
      have j1 : ¬ (4096 : Int) < (N : Int) := by omega
      by_cases a2 : (t.b.length : Int) - 5 < (N : Int)
      · have HV : Hid (brkB t C N = true) := by show _ = _; unfold brkB; rw [decide_eq_true a2]; simp
        go_wp2
        go_meet
        exact ⟨rfl, by rw [HV.out], rfl⟩
      by_cases a3 : C < 1
      · have HV : Hid (brkB t C N = true) := by show _ = _; unfold brkB; rw [decide_eq_true a3]; simp
        have j3 : (C : Int) < 1 := by omega
        go_wp2
        go_meet
        exact ⟨rfl, by rw [HV.out], rfl⟩
      have j3 : ¬ (C : Int) < 1 := by omega
      by_cases a4 : 3 < C
      · have HV : Hid (brkB t C N = true) := by show _ = _; unfold brkB; rw [decide_eq_true a4]; simp
        have j4 : (3 : Int) < (C : Int) := by omega
        go_wp2
        go_meet
        exact ⟨rfl, by rw [HV.out], rfl⟩
      have j4 : ¬ (3 : Int) < (C : Int) := by omega
      have HV : Hid (brkB t C N = (t.whole != decide (C = 3))) := by show _ = _; unfold brkB; rw [decide_eq_false a1, decide_eq_false a2, decide_eq_false a3, decide_eq_false a4]; rfl
      by_cases a5 : C = 3
      · have j5 : ((C : Int) == 3) = true := by rw [a5]; rfl
        rw [decide_eq_true a5] at HV
        clear a5
        cases hw : t.whole with
        | true =>
          rw [hw] at HV
          go_wp2
          go_meet
          exact ⟨by rw [hw], by rw [HV.out]; rfl, rfl⟩
        | false =>
          rw [hw] at HV
          go_wp2
          go_meet
          exact ⟨by rw [hw], by rw [HV.out]; rfl, rfl⟩
      · have j5 : ((C : Int) == 3) = false := by rw [beq_eq_false_iff_ne]; omega
        rw [decide_eq_false a5] at HV
        cases hw : t.whole with
        | true =>
          rw [hw] at HV
          go_wp2
          go_meet
          exact ⟨by rw [hw], by rw [HV.out]; rfl, rfl⟩
        | false =>
          rw [hw] at HV
          go_wp2
          go_meet
          exact ⟨by rw [hw], by rw [HV.out]; rfl, rfl⟩
    case rest =>
      obtain ⟨rfl, rfl, rfl⟩ := hcut
      cases hf : fitsT t with
      | false =>
        have HV : brkB t C N = true := by rw [HBR.out, hf]; rfl
        have HF := hI.stop hf
        have hO2 := hO.below hb2 (Nat.le_refl _)
        have hG2 := hG.below hb2 (Nat.le_refl _)
        rw [HV]
        cases hw : t.whole with
        | true =>
          rw [hw] at HF
          have HF' : Hid (toldB bs = (t.state, t.recs)) := HF
          clear HF
          go_wp2
          go_ret2
          rw [HF'.out]
          exact ⟨_, _, _, rfl, hO2, hG2, hB2⟩
        | false =>
          rw [hw] at HF
          have HF' : Hid (toldB bs = ([], [])) := HF
          clear HF
          go_wp2
          go_ret2
          rw [HF'.out]
          exact ⟨_, _, _, rfl, ⟨rfl, .inl ⟨rfl, rfl⟩⟩, Gat.nil _ _, hB2⟩
      | true =>
        have HV : brkB t C N = false := by rw [HBR.out, hf]; rfl
        rw [HV]
        obtain ⟨hf1, hf2⟩ := fitsT_len hf
        have hI' := hI.step hf
        have hN5 : N ≤ t.b.length - 5 := by
          have := HBR.out
          rw [hf] at this
          unfold brkB at this
          simp only [Bool.not_true, Bool.or_eq_false_iff, decide_eq_false_iff_not] at this
          omega
        obtain ⟨E, hE⟩ : ∃ E, E = 5 + N := ⟨_, rfl⟩
        have hwr : IntKind.i64.wrap (5 + (N : Int)) = (E : Int) := by rw [IntKind.wrap_i64]; omega
        obtain ⟨r5, hr5⟩ : ∃ r5, r5 = Value.slice (restD (some ⟨qb, qo, none⟩) c 5) (E - 5) (c - 5) := ⟨_, rfl⟩
        obtain ⟨aE, haE⟩ : ∃ aE, aE = restD (some ⟨qb, qo, none⟩) c E := ⟨_, rfl⟩
        have l5 : ∀ V, (Instr.slice 22 (.slice (some ⟨qb, qo, none⟩) t.b.length c) (some (.int .i64 5)) (some (.int .i64 (E : Int))) none).run Try.prog V = .ok r5 V := fun V => by rw [hr5]; exact slice_mid8 _ t.b.length c 5 E (by omega) (by omega) V
        have lE : ∀ V, (Instr.slice 22 (.slice (some ⟨qb, qo, none⟩) t.b.length c) (some (.int .i64 (E : Int))) none none).run Try.prog V = .ok (.slice aE (t.b.length - E) (c - E)) V := fun V => by rw [haE]; exact slice_restD _ t.b.length c E (by omega) V
        have hs5 : Seg w2 r5 (pieceT t) := by
          rw [hr5, HPT.out, show E - 5 = N by omega]
          exact (((hs.below hB2 (Nat.le_refl _)).dropsD 5 (by omega)).takesD N (by omega)).1
        have hsE : Seg w (.slice aE (t.b.length - E) (c - E)) (t.b.drop E) := by rw [haE]; exact hs.dropsD E (by omega)
        have hpl : (pieceT t).length ≤ 1000000 := by rw [HPT.out, List.length_take]; omega
        have hst := hI.state
        have hrc := hI.recs
        have hO2 := hO.below hb2 (Nat.le_refl _)
        have hG2 := hG.below hb2 (Nat.le_refl _)
        have hmeas : t.b.length - E < t.b.length := by omega
        have hdl : (t.b.drop E).length = t.b.length - E := List.length_drop ..
        rw [← hE] at HST
        have hwf : t.whole = decide (C = 3) := by
          have := HBR.out
          rw [hf] at this
          unfold brkB at this
          simp only [Bool.not_true, Bool.or_eq_false_iff, decide_eq_false_iff_not] at this
          simpa using this.2
        clear hr5 haE hE hf hI HBR HPT hf1 hf2 hN5 HO d0 ix l1 hO hG
        by_cases a5 : C = 3
        · have j5 : ((C : Int) == 3) = true := by rw [a5]; rfl
          have HS3 : Hid (stepT t = { t with b := t.b.drop E, recs := t.recs ++ [pieceT t] }) := by show _ = _; rw [HST.out, if_pos a5]
          have HW : Hid (t.whole = true) := by show _ = _; rw [hwf]; exact decide_eq_true a5
          clear a5 HST hwf
          go_wp2_with (first | (at_builtin; refine app_own _ rfl (.tmp 43) (.tmp 47) rfl w.heap.size _ [] rfl (by exact own_emptyD _ _ _ rfl hB2.size) r5 (pieceT t) rfl (by exact hs5.alloc _) (by show 0 + _ ≤ _; omega) (by exact (hB2.alloc hB2.size _).size) ?_; intro v9 w3 ho3 hg3 hv3; rw [List.nil_append] at ho3; have hB3 : Below w2.heap.size w2 w3 := below_grown ((Below.refl _ w2).alloc (Nat.le_refl _) _) hg3 (by simp) (fun q hq => by have h2 : w2.heap.size = q := Option.some.inj hq; omega); have hO3 := hO2.below hB3 (Nat.le_refl _); have hG3 := hG2.below hB3 (Nat.le_refl _); have hBw3 := hB2.trans (hB3.mono hB2.size); obtain ⟨a9, c9, rfl⟩ := Seg.shapeD ho3.seg; have hba := (Below.refl w3.heap.size w3).alloc (Nat.le_refl _) (.cells #[.slice a9 (pieceT t).length c9] 22)) | (at_builtin; refine app_row _ rfl (.tmp 55) (.tmp 57) rfl w.heap.size _ vs t.recs rfl (by exact hG3.below hba (Nat.le_refl _)) w3.heap.size 1 (.slice a9 (pieceT t).length c9) (pieceT t) rfl (by exact (Blk.new w3 22 #[.slice a9 (pieceT t).length c9]).cell (j := 0) rfl) (by exact ho3.below hba (Nat.le_refl _)) (by omega) (by exact (hBw3.alloc hBw3.size _).size) ?_; intro v5 w5 hg5 hgr5))
          have hBa : Below w.heap.size w (w3.alloc (.cells #[.slice a9 (pieceT t).length c9] 22)) := hBw3.alloc hBw3.size _
          have hGa := hG3.below hba (Nat.le_refl _)
          have hOa := hO3.below hba (Nat.le_refl _)
          have hB5 : Below w.heap.size w w5 := below_grown hBa hgr5 hBa.size (fun q hq => (World.ownsRow.lt hGa.own q hq).1)
          refine ⟨⟨stepT t, aE, c - E, vs ++ [.slice a9 (pieceT t).length c9], ?_, ?_, ?_, ?_, ?_, hI', ?_, hB5⟩, hmeas⟩
          · rw [HS3.out]; show _ = Value.slice aE (t.b.drop E).length _; rw [hdl]
          · rw [HS3.out]; show Seg w (.slice aE (t.b.drop E).length _) (t.b.drop E); rw [hdl]; exact hsE
          · rw [HS3.out]; exact gat_keep hGa hgr5 hOa
          · rw [HS3.out]; exact hg5
          · rw [HS3.out]
          · intro e; rw [HS3.out] at e; have : t.whole = false := e; rw [HW.out] at this; cases this
        · have j5 : ((C : Int) == 3) = false := by rw [beq_eq_false_iff_ne]; omega
          have HS3 : Hid (stepT t = { t with b := t.b.drop E, state := t.state ++ pieceT t, whole := decide (C = 2) }) := by show _ = _; rw [HST.out, if_neg a5]
          have HNO2 := HNO.out (by rw [hwf]; exact decide_eq_false a5)
          have HN2 : Hid (t.recs = []) := HNO2.2
          have hu5 := HNO2.1
          have HC2 : Hid (((C : Int) == 2) = decide (C = 2)) := by show _ = _; by_cases h : C = 2; (rw [h]; rfl); (rw [decide_eq_false h, beq_eq_false_iff_ne]; omega)
          clear a5 HST hwf HNO2
          go_wp2_with (first | (at_builtin; refine app_own _ rfl (.tmp 43) (.tmp 47) rfl w.heap.size _ [] rfl (by exact own_emptyD _ _ _ rfl hB2.size) r5 (pieceT t) rfl (by exact hs5.alloc _) (by show 0 + _ ≤ _; omega) (by exact (hB2.alloc hB2.size _).size) ?_; intro v9 w3 ho3 hg3 hv3; rw [List.nil_append] at ho3; have hB3 : Below w2.heap.size w2 w3 := below_grown ((Below.refl _ w2).alloc (Nat.le_refl _) _) hg3 (by simp) (fun q hq => by have h2 : w2.heap.size = q := Option.some.inj hq; omega); have hO3 := hO2.below hB3 (Nat.le_refl _); have hBw3 := hB2.trans (hB3.mono hB2.size)) | (at_builtin; refine app_own w3 rfl (.tmp 59) (.tmp 60) rfl w.heap.size _ t.state rfl hO3 v9 (pieceT t) rfl ho3.seg (by omega) (by exact hBw3.size) ?_; intro v4 w4 ho4 hg4 hv4))
          have hB4 : Below w.heap.size w w4 := below_grown hBw3 hg4 hBw3.size (fun q hq => (hO3.blocks q hq).1)
          refine ⟨⟨stepT t, aE, c - E, [], ?_, ?_, ?_, ?_, ?_, hI', ?_, hB4⟩, hmeas⟩
          · rw [HS3.out]; show _ = Value.slice aE (t.b.drop E).length _; rw [hdl]
          · rw [HS3.out]; show Seg w (.slice aE (t.b.drop E).length _) (t.b.drop E); rw [hdl]; exact hsE
          · rw [HS3.out]; exact ho4
          · rw [HS3.out]; show Gat _ _ _ _ t.recs; rw [HN2.out]; exact Gat.nil _ _
          · rw [HS3.out]; show Value.bool ((C : Int) == 2) = Value.bool (decide (C = 2)); rw [HC2.out]
          · intro _; rw [HS3.out]; exact ⟨rfl, HN2.out⟩
end Go.Proofs.Ytojgeahablphbaa
