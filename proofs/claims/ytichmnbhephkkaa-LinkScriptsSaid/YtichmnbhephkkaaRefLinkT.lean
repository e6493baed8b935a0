/-
  What is proved here: the document's Tick answers the packets of the next moment.
  Conditions: the link lies in memory as laws hold it.
-/
import Derived.Test.YtichmnbhephkkaaRefLink
import Derived.Test.YtichmnbhephkkaaLinkTick
import Derived.BigQuiet
import Derived.Deep.QuietTactic
namespace Go.Proofs.Ytichmnbhephkkaa
open Go.RowKit

theorem still_valueR {ops : Array Oper} {w : World} {Q : Act → Prop} {a : Act} {o : Oper} {rest : List Oper} (hgd : o.guard = none) (v : Value) (hrun : (execOp a.eval o).run Try.prog w = .ok (.value v) w) (h : wpStill Try.prog ops w Q rest (a.put o.dst v)) : wpStill Try.prog ops w Q (o :: rest) a := by
  refine wpStill_step fun K hK => ?_
  rw [if_pos (by simp [Region.wanted, hgd])]
  unfold Oper.still
  simp only [hrun, Oper.stillUpon]
  exact ⟨trivial, hK _ h⟩
set_option maxRecDepth 100000 in
set_option maxHeartbeats 4000000 in
theorem tickR_any (w : World) (T : Nat → Prop) (lo G : Nat) (v : Value) (s : KS) (h : LR w T lo G v s) :
    Calls Try.prog 12 #[.pointer (some ⟨G, 0, none⟩)] w fun e w' => ∃ pv, e = .returned pv ∧ LR w' T lo G v (tickK s).2 ∧ PksO w' T w.heap.size pv (tickK s).1 ∧ Chg (fun q => q = G) w w' := by
  obtain ⟨c0, c1, c2, c3, c4, c5, c6⟩ := rlinkC_cells h.head
  unfold tickK
  by_cases hp : s.pe = 0
  · rw [if_pos hp]
    rw [hp] at c1
    have HH : Hid (Calls Try.prog 29 #[.pointer (some ⟨G, 0, none⟩), .int .i64 1] w fun r w' => r = .returned (kpV (bareK s 1) (.slice none 0 0)) ∧ Below w.heap.size w w') := bareR_any G s v 1 w h.head
    have HBK : Hid (bareK s 1 = ⟨1, s.ep, s.pe, 0, 0, []⟩) := rfl
    unfold kpV kpL at HH
    rw [HBK.out, hp] at HH
    clear HBK
    go_enter Try.func12, Try.ntmps12
    go_wp2_with fail
    refine HH.out.mono ?_
    rintro e w1 ⟨rfl, hb1⟩
    have h1 := h.after hb1
    have hbN := below_new w1 (.cells #[.int .i64 1, .int .i64 s.ep, .int .i64 0, .int .i64 0, .int .i64 0, .slice none 0 0] 34)
    have hB2 : Below w.heap.size w (w1.alloc (.cells #[.int .i64 1, .int .i64 s.ep, .int .i64 0, .int .i64 0, .int .i64 0, .slice none 0 0] 34)) := hb1.trans (hbN.mono hb1.size)
    have hP : PksO (w1.alloc (.cells #[.int .i64 1, .int .i64 s.ep, .int .i64 0, .int .i64 0, .int .i64 0, .slice none 0 0] 34)) T w.heap.size (.slice (some ⟨w1.heap.size, 0, none⟩) 1 1) [bareK s 1] := by
      have := pks_one (lo := w.heap.size) (bareK s 1) (.slice none 0 0) (segA_nil w1 T) h1.lt hb1.size
      have e : bareK s 1 = ⟨1, s.ep, 0, 0, 0, []⟩ := by unfold bareK; rw [hp]
      rw [e] at this ⊢
      exact this
    clear HH c0 c1 c2 c3 c4 c5 c6
    go_wp2
    go_ret
    exact ⟨_, rfl, h1.after hbN, hP, Chg.of_below hB2 (Nat.le_refl _)⟩
  rw [if_neg hp]
  have hp1 : (s.pe == 0) = false := beq_eq_false_iff_ne.2 hp
  have HT : topK s = topK (passK s) := by unfold topK; rw [passK_wt]
  rw [HT]
  have hpk := passK_ok h.ok
  have hpw := passK_wt s
  have HFIN : Hid ((datasK (passK s) (passK s).se (topK s - (passK s).se), { passK s with se := max (passK s).se (topK s) }).2.ok) := by
    have := tickK_ok h.ok
    unfold tickK at this
    rw [if_neg hp] at this
    exact this
  rw [HT] at HFIN
  -- what the timer does
  by_cases h0 : s.se = 0
  · have hps : passK s = s := by unfold passK; rw [if_pos h0]
    have d1 : decide ((0 : Int) < (s.se : Int)) = false := decide_eq_false (by omega)
    have d2 : ((s.ti : Int) == 3) = false := beq_eq_false_iff_ne.2 (by have := h.ok.ti; omega)
    rw [hps] at hpk hpw HFIN ⊢
    have h1 : LR w T lo G v s := h
    have hC01 : Chg (fun q => q = G) w w := Chg.refl _ _
    have hsz : w.heap.size = w.heap.size := rfl
    obtain ⟨av, cv, rfl⟩ := h1.row.shape
    have c4' : w.cell? ⟨G, 4, none⟩ = some (.int .i64 0) := by rw [c4, h0]; rfl
    clear h h0 hps HT hpk hpw c4 d1
    obtain ⟨t, ht⟩ : ∃ t, t = s := ⟨_, rfl⟩
    subst ht
    go_enter Try.func12, Try.ntmps12
    go_wp2_with fail
    clear d2 hp1 c0 c1 c2 c3 c4' c5 c6
    obtain ⟨w1, hw1⟩ : ∃ w1, w1 = w := ⟨_, rfl⟩
    rw [← hw1] at h1 ⊢
    have hC01 : Chg (fun q => q = G) w w1 := by rw [hw1]; exact hC01
    have hsz : w.heap.size = w1.heap.size := by rw [hw1]
    clear hw1
    have hwl := h1.lt
    have htop : topK t ≤ t.wt.length ∧ topK t ≤ 4 ∧ t.se ≤ topK t ∧ (topK t = 4 ∨ topK t = t.wt.length) := by have := h1.ok.se; unfold topK; omega
    have HTOP : Hid (topK t ≤ t.wt.length ∧ topK t ≤ 4 ∧ t.se ≤ topK t ∧ (topK t = 4 ∨ topK t = t.wt.length)) := htop
    clear htop
    go_loopw [3, 4] (fun pv _ wr => ∃ j, j ≤ topK t - t.se ∧ PksO wr (fun q => T q ∨ pv.ownBlock = some q) w.heap.size pv (datasK t t.se j) ∧ Blk wr G 47 (rlinkC { t with se := t.se + j } (.slice av t.wt.length cv)) ∧ Chg (fun q => q = G) w1 wr) (fun pv _ _ => 5 - lenV pv)
    case atStart => exact ⟨0, Nat.zero_le _, PksO.nil _ _ _, h1.head, Chg.refl _ _⟩
    case round =>
      obtain ⟨j, hj, hP, hK, hC⟩ := hrel
      obtain ⟨ap, cp, rfl⟩ := hP.shape
      have hlj : Hid ((datasK t t.se j).length = j) := datasK_len t t.se j
      obtain ⟨K, hKK⟩ : ∃ K, K = t.se + j := ⟨_, rfl⟩
      rw [← hKK] at hK
      have HKK : Hid (K = t.se + j) := hKK
      have hK1 : j < topK t - t.se → K < topK t := fun e => by omega
      have hK2 : ¬ j < topK t - t.se → K = topK t := fun e => by have := HTOP.out; omega
      clear hKK
      have c4 : wr.cell? ⟨G, 4, none⟩ = some (.int .i64 (K : Int)) := hK.cell (j := 4) rfl
      have c2 : wr.cell? ⟨G, 2, none⟩ = some (.slice av t.wt.length cv) := hK.cell (j := 2) rfl
      have hw16 : t.wt.length ≤ 16 := h1.ok.wt
      have htop := HTOP.out
      by_cases hlt : j < topK t - t.se
      · have hk3 := hK1 hlt
        have hkk : K < t.wt.length := by omega
        have i1 : decide ((K : Int) < (t.wt.length : Int)) = true := decide_eq_true (by omega)
        have i2 : decide ((K : Int) < 4) = true := decide_eq_true (by omega)
        have i3 : decide (K < t.wt.length) = true := decide_eq_true hkk
        clear htop hK1 hK2 hk3
        go_wp2_with fail
        go_quiet (fail)
        have hKq : Blk (wr.drewN nq) G 47 (rlinkC { t with se := K } (.slice av t.wt.length cv)) := hK
        have HB3 : Hid (Calls Try.prog 29 #[.pointer (some ⟨G, 0, none⟩), .int .i64 3] (wr.drewN nq) fun r w' => r = .returned (.agg #[.int .i64 3, .int .i64 t.ep, .int .i64 t.pe, .int .i64 0, .int .i64 0, .slice none 0 0]) ∧ Below (wr.drewN nq).heap.size (wr.drewN nq) w') := bareR_any G { t with se := K } (.slice av t.wt.length cv) 3 _ hKq
        have hPq : PksO (wr.drewN nq) (fun q => T q ∨ (Value.slice ap (datasK t t.se j).length cp).ownBlock = some q) w.heap.size (.slice ap (datasK t t.se j).length cp) (datasK t t.se j) := hP.after (Below.drewN (Below.refl _ _) nq)
        have hCq : Chg (fun q => q = G) w1 (wr.drewN nq) := hC.trans (S' := fun q => q = G) (Chg.of_below (Below.drewN (Below.refl _ _) nq) (Nat.le_refl _)) (fun _ _ e => e)
        clear hK hP hC c4 c2 i1 i2 i3
        generalize wr.drewN nq = W0 at *
        go_wp2_with fail
        refine HB3.out.mono ?_
        rintro e W1 ⟨rfl, hb1⟩
        clear HB3
        obtain ⟨P, hPd⟩ : ∃ P, P = W1.heap.size := ⟨_, rfl⟩
        have hkP : Blk (W1.alloc (.cells #[.int .i64 3, .int .i64 t.ep, .int .i64 t.pe, .int .i64 0, .int .i64 0, .slice none 0 0] 34)) P 34 #[.int .i64 3, .int .i64 t.ep, .int .i64 t.pe, .int .i64 0, .int .i64 0, .slice none 0 0] := by rw [hPd]; exact Blk.new W1 _ _
        have hb2 : Below W0.heap.size W0 (W1.alloc (.cells #[.int .i64 3, .int .i64 t.ep, .int .i64 t.pe, .int .i64 0, .int .i64 0, .slice none 0 0] 34)) := hb1.trans ((below_new W1 _).mono hb1.size)
        have hkG := hKq.below hb2 hKq.lt
        have hP2 := hPq.after hb2
        have hPG : G ≠ P := by have := hKq.lt; have := hb1.size; omega
        have hPl : W0.heap.size ≤ P := by rw [hPd]; exact hb1.size
        go_wp2_with fail
        rw [← hPd]
        have HPL : Hid (W0.heap.size ≤ P) := hPl
        have HPG : Hid (G ≠ P) := hPG
        clear hPd hPl hPG hb1
        generalize W1.alloc (.cells #[.int .i64 3, .int .i64 t.ep, .int .i64 t.pe, .int .i64 0, .int .i64 0, .slice none 0 0] 34) = W2 at *
        have g3 : W2.cell? ⟨G, 3, none⟩ = some (.int .i64 (t.fi : Int)) := hkG.cell (j := 3) rfl
        have g4 : W2.cell? ⟨G, 4, none⟩ = some (.int .i64 (K : Int)) := hkG.cell (j := 4) rfl
        have p3 : W2.cell? ⟨P, 3, none⟩ = some (.int .i64 0) := hkP.cell (j := 3) rfl
        have f3 := hkP.frozen 3
        have hfi : t.fi ≤ 1073741825 := h1.ok.fi.2
        have hK16 : K ≤ 16 := by omega
        refine region_tail 10 (by kernel_rfl) (by kernel_rfl) ?_
        simp only [List.take_succ_cons, List.take_zero, List.drop_succ_cons, List.drop_zero]
        repeat still_step
        refine wpStill_nil ?_
        have g5 : W2.cell? ⟨G, 5, none⟩ = some (.int .i64 (t.ne : Int)) := hkG.cell (j := 5) rfl
        have p4 : W2.cell? ⟨P, 4, none⟩ = some (.int .i64 0) := hkP.cell (j := 4) rfl
        have f4 := hkP.frozen 4
        have hPG1 := HPG.out
        have hPG2 : P ≠ G := fun e => hPG1 e.symm
        have hne : t.ne ≤ 1073741825 := h1.ok.ne.2
        go_wp2_with fail
        have hkP4 := ((hkP.set 3 (.int .i64 ((t.fi : Int) + (K : Int)))).set 4 (.int .i64 ((t.ne : Int) - 1))).drew
        have hkG4 := ((hkG.setOther ⟨P, 3, none⟩ (.int .i64 ((t.fi : Int) + (K : Int))) HPG.out).setOther ⟨P, 4, none⟩ (.int .i64 ((t.ne : Int) - 1)) HPG.out).drew
        have hB24 : Below W0.heap.size W2 ((W2.setCell ⟨P, 3, none⟩ (.int .i64 ((t.fi : Int) + (K : Int)))).setCell ⟨P, 4, none⟩ (.int .i64 ((t.ne : Int) - 1))).drew := ((((Chg.refl (fun q => q = P) W2).setCell P 3 _ (fun _ => rfl)).setCell P 4 _ (fun _ => rfl)).drew).below (fun q e => by rw [e]; exact HPL.out) hb2.size
        have hkP4' : Blk ((W2.setCell ⟨P, 3, none⟩ (.int .i64 ((t.fi : Int) + (K : Int)))).setCell ⟨P, 4, none⟩ (.int .i64 ((t.ne : Int) - 1))).drew P 34 #[.int .i64 3, .int .i64 t.ep, .int .i64 t.pe, .int .i64 ((t.fi : Int) + (K : Int)), .int .i64 ((t.ne : Int) - 1), .slice none 0 0] := hkP4.of_eq rfl
        clear hkP4 g3 g4 g5 p3 p4 f3 f4 hPG1 hPG2 hkP hkG
        generalize ((W2.setCell ⟨P, 3, none⟩ (.int .i64 ((t.fi : Int) + (K : Int)))).setCell ⟨P, 4, none⟩ (.int .i64 ((t.ne : Int) - 1))).drew = W4 at *
        have hb4 : Below W0.heap.size W0 W4 := hb2.trans hB24
        have hrow4 := (h1.row.chg hCq (fun q e => by rw [e]; exact h1.tG) (fun q hq e => h1.ne (by rw [← e]; exact hq))).after hb4
        have hP4 := hPq.after hb4
        obtain ⟨b, off, c, a, cc, e1, hbl, hcb, hsb⟩ := hrow4.at hkk
        cases e1
        have HIX : Hid (∀ V, (Instr.indexAt 41 (.slice (some ⟨b, off, none⟩) t.wt.length cv) (.int .i64 (K : Int))).run Try.prog V = .ok (.pointer (some ⟨b, off + K, none⟩)) V) := fun V => index_rowsK b off t.wt.length cv K hkk V
        have hbody : (t.wt.getD K []).length ≤ 1500 := h1.ok.each _ (by rw [List.getD_eq_getElem?_getD, List.getElem?_eq_getElem hkk]; exact List.getElem_mem hkk)
        have HDK : Hid (dataK t K = ⟨3, t.ep, t.pe, (t.fi : Int) + (K : Int), (t.ne : Int) - 1, t.wt.getD K []⟩) := rfl
        have hTb : T b := h1.tv b rfl
        have hbs : b < W0.heap.size := by have := hwl b hTb; have := hCq.size; omega
        have hGs : G < W0.heap.size := hKq.lt
        have g24 : W4.cell? ⟨G, 2, none⟩ = some (.slice (some ⟨b, off, none⟩) t.wt.length cv) := hkG4.cell (j := 2) rfl
        have g44 : W4.cell? ⟨G, 4, none⟩ = some (.int .i64 (K : Int)) := hkG4.cell (j := 4) rfl
        obtain ⟨body, hbd⟩ : ∃ body, body = t.wt.getD K [] := ⟨_, rfl⟩
        rw [← hbd] at hcb hsb hbody HDK
        clear hbd
        have HSK : Hid (∀ V, Below W0.heap.size W4 V → (V.cell? ⟨G, 2, none⟩ = some (.slice (some ⟨b, off, none⟩) t.wt.length cv) ∧ V.cell? ⟨G, 4, none⟩ = some (.int .i64 (K : Int)) ∧ V.cell? ⟨b, off + K, none⟩ = some (.slice a body.length cc))) := fun V hV => ⟨(hV.cell (p := ⟨G, 2, none⟩) hGs).trans g24, (hV.cell (p := ⟨G, 4, none⟩) hGs).trans g44, (hV.cell (p := ⟨b, off + K, none⟩) hbs).trans hcb⟩
        have hd4 : Below W0.heap.size W4 W4.drew := (Below.refl _ _).drew
        have hS4 := HSK.out _ hd4
        have hd5 : Below W0.heap.size W4 (W4.drew.alloc (.cells #[] 5)) := hd4.alloc (by show W0.heap.size ≤ W4.heap.size; exact hb4.size) _
        have hS5 := HSK.out _ hd5
        have hO5 : Own (W4.drew.alloc (.cells #[] 5)) W4.drew.heap.size (.slice (some ⟨W4.drew.heap.size, 0, none⟩) 0 0) [] := own_emptyD W4.drew W4.drew.heap.size _ rfl (Nat.le_refl _)
        obtain ⟨v7, W6, happ, hO6, hg6, -⟩ := app_bytes _ W4.drew.heap.size _ [] hO5 (.slice a body.length cc) body (hsb.1.drew.alloc _) (by simp only [List.length_nil]; omega) (by simp)
        rw [List.nil_append] at hO6
        obtain ⟨ab, cb, rfl⟩ := hO6.seg.shapeD
        have hd6 : Below W0.heap.size W4 W6 := hd5.grown hg6 (Nat.le_trans hb4.size hd5.size) (fun q hq => by cases hq; exact hb4.size)
        have hdd6 : Below W4.heap.size W4 W6 := (((Below.refl W4.heap.size W4).drew).alloc (Nat.le_refl _) _).grown hg6 (by simp) (fun q hq => by cases hq; exact Nat.le_refl _)
        have hS6 := HSK.out _ hd6
        have hkP6 := hkP4'.below hdd6 hkP4'.lt
        have hd7 : Below W0.heap.size W4 (W6.setCell ⟨P, 5, none⟩ (.slice ab body.length cb)) := hd6.trans (((Chg.refl (fun q => q = P) W6).setCell P 5 _ (fun _ => rfl)).below (fun q e => by rw [e]; exact HPL.out) (Nat.le_trans hb4.size hd6.size))
        have hS7 := HSK.out _ hd7
        have hO7 : Own (W6.setCell ⟨P, 5, none⟩ (.slice ab body.length cb)) W4.drew.heap.size (.slice ab body.length cb) body := hO6.chg ((Chg.refl (fun q => q = P) W6).setCell P 5 _ (fun _ => rfl)) (fun q hq e => by have := (hO6.blocks q hq).1; have := hkP4'.lt; have e2 : W4.drew.heap.size = W4.heap.size := rfl; omega)
        have hkP7 : Blk (W6.setCell ⟨P, 5, none⟩ (.slice ab body.length cb)) P 34 #[.int .i64 3, .int .i64 t.ep, .int .i64 t.pe, .int .i64 ((t.fi : Int) + (K : Int)), .int .i64 ((t.ne : Int) - 1), .slice ab body.length cb] := (hkP6.set 5 _).of_eq rfl
        have hkG7 : Blk (W6.setCell ⟨P, 5, none⟩ (.slice ab body.length cb)) G 47 (rlinkC { t with se := K } (.slice (some ⟨b, off, none⟩) t.wt.length cv)) := (hkG4.below hdd6 hkG4.lt).setOther ⟨P, 5, none⟩ _ HPG.out
        have hbd7 : Below W0.heap.size W0 (W6.setCell ⟨P, 5, none⟩ (.slice ab body.length cb)) := hb4.trans hd7
        clear hd7 hd6 hdd6 hd5 hP4 hrow4 hg6
        go_wp2_with fail
        refine held_begin (fun V => V.cell? ⟨G, 2, none⟩ = some (.slice (some ⟨b, off, none⟩) t.wt.length cv) ∧ V.cell? ⟨G, 4, none⟩ = some (.int .i64 (K : Int)) ∧ V.cell? ⟨b, off + K, none⟩ = some (.slice a body.length cc)) (by kernel_rfl) ?_
        refine held_take 1 72 _ (.pointer (some ⟨G, 0, none⟩)) rfl rfl (by kernel_rfl) (by kernel_rfl) (by kernel_rfl) rfl hS4 (fun _ _ => rfl) ?_
        simp only [Act.put, List.setIfInBounds_toArray, List.set_cons_succ, List.set_cons_zero]
        refine held_take 2 73 _ (.pointer (some ⟨G, 0, none⟩)) rfl rfl (by kernel_rfl) (by kernel_rfl) (by kernel_rfl) rfl hS4 (fun _ _ => rfl) ?_
        simp only [Act.put, List.setIfInBounds_toArray, List.set_cons_succ, List.set_cons_zero]
        refine held_take 3 74 _ (.pointer (some ⟨G, 2, none⟩)) rfl rfl (by kernel_rfl) (by kernel_rfl) (by kernel_rfl) rfl hS4 (fun _ _ => rfl) ?_
        simp only [Act.put, List.setIfInBounds_toArray, List.set_cons_succ, List.set_cons_zero]
        refine held_take 4 75 _ (.slice (some ⟨b, off, none⟩) t.wt.length cv) rfl rfl (by kernel_rfl) (by kernel_rfl) (by kernel_rfl) rfl hS4 (fun V hV => exec_loadc 41 _ rfl _ _ rfl (load_one 41 (fun _ => by kernel_rfl) V _ _ _ hV.1)) ?_
        simp only [Act.put, List.setIfInBounds_toArray, List.set_cons_succ, List.set_cons_zero]
        refine held_take 5 76 _ (.pointer (some ⟨G, 0, none⟩)) rfl rfl (by kernel_rfl) (by kernel_rfl) (by kernel_rfl) rfl hS4 (fun _ _ => rfl) ?_
        simp only [Act.put, List.setIfInBounds_toArray, List.set_cons_succ, List.set_cons_zero]
        refine held_take 6 77 _ (.pointer (some ⟨G, 0, none⟩)) rfl rfl (by kernel_rfl) (by kernel_rfl) (by kernel_rfl) rfl hS4 (fun _ _ => rfl) ?_
        simp only [Act.put, List.setIfInBounds_toArray, List.set_cons_succ, List.set_cons_zero]
        refine held_take 7 78 _ (.pointer (some ⟨G, 4, none⟩)) rfl rfl (by kernel_rfl) (by kernel_rfl) (by kernel_rfl) rfl hS4 (fun _ _ => rfl) ?_
        simp only [Act.put, List.setIfInBounds_toArray, List.set_cons_succ, List.set_cons_zero]
        refine held_take 8 79 _ (.int .i64 (K : Int)) rfl rfl (by kernel_rfl) (by kernel_rfl) (by kernel_rfl) rfl hS4 (fun V hV => exec_loadc 3 _ rfl _ _ rfl (load_one 3 (fun _ => by kernel_rfl) V _ _ _ hV.2.1)) ?_
        simp only [Act.put, List.setIfInBounds_toArray, List.set_cons_succ, List.set_cons_zero]
        refine held_take 9 80 _ (.pointer (some ⟨b, off + K, none⟩)) rfl rfl (by kernel_rfl) (by kernel_rfl) (by kernel_rfl) rfl hS4 (fun V _ => exec_indexat 41 _ _ rfl (.slice (some ⟨b, off, none⟩) t.wt.length cv) (.int .i64 (K : Int)) _ rfl rfl (HIX.out V)) ?_
        simp only [Act.put, List.setIfInBounds_toArray, List.set_cons_succ, List.set_cons_zero]
        refine held_take 10 81 _ (.slice a body.length cc) rfl rfl (by kernel_rfl) (by kernel_rfl) (by kernel_rfl) rfl hS4 (fun V hV => exec_loadc 32 _ rfl _ _ rfl (load_one 32 (fun _ => by kernel_rfl) V _ _ _ hV.2.2)) ?_
        simp only [Act.put, List.setIfInBounds_toArray, List.set_cons_succ, List.set_cons_zero]
        refine held_all1 0 (by kernel_rfl) (op_value 0 71 _ (.slice (some ⟨W4.drew.heap.size, 0, none⟩) 0 0) (W4.drew.alloc (.cells #[] 5)) rfl rfl rfl (exec_empty rfl) ⟨hS5, ?_⟩)
        simp only [Act.put, List.setIfInBounds_toArray, List.set_cons_succ, List.set_cons_zero]
        refine held_all1 11 (by kernel_rfl) (op_value 11 82 _ (.slice ab body.length cb) (W6) rfl rfl rfl (exec_app (.tmp 71) (.tmp 81) 32 32 rfl (.slice (some ⟨W4.drew.heap.size, 0, none⟩) 0 0) (.slice a body.length cc) (.slice ab body.length cb) rfl rfl happ) ⟨hS6, ?_⟩)
        simp only [Act.put, List.setIfInBounds_toArray, List.set_cons_succ, List.set_cons_zero]
        refine held_take 12 83 _ (.pointer (some ⟨P, 5, none⟩)) rfl rfl (by kernel_rfl) (by kernel_rfl) (by kernel_rfl) rfl hS6 (fun _ _ => rfl) ?_
        simp only [Act.put, List.setIfInBounds_toArray, List.set_cons_succ, List.set_cons_zero]
        refine held_all1 13 (by kernel_rfl) (op_skip 13 _ (W6.setCell ⟨P, 5, none⟩ (.slice ab body.length cb)) rfl rfl rfl (exec_stores _ _ rfl P 5 ab body.length cb _ rfl rfl (hkP6.cell (j := 5) rfl) (hkP6.frozen 5)) ⟨hS7, ?_⟩)
        refine wpAnyH_done (by kernel_rfl) ?_ _
        refine NoPanic.normal ?_
        clear hS4 hS5 hS6 hS7 hkP6 hO5 hO6 happ HSK HIX g24 g44 hcb hsb
        generalize W6.setCell ⟨P, 5, none⟩ (.slice ab body.length cb) = W7 at *
        have p0 : W7.cell? ⟨P, 0, none⟩ = some (.int .i64 3) := hkP7.cell (j := 0) rfl
        have p1 : W7.cell? ⟨P, 1, none⟩ = some (.int .i64 t.ep) := hkP7.cell (j := 1) rfl
        have p2 : W7.cell? ⟨P, 2, none⟩ = some (.int .i64 t.pe) := hkP7.cell (j := 2) rfl
        have p3 : W7.cell? ⟨P, 3, none⟩ = some (.int .i64 ((t.fi : Int) + (K : Int))) := hkP7.cell (j := 3) rfl
        have p4 : W7.cell? ⟨P, 4, none⟩ = some (.int .i64 ((t.ne : Int) - 1)) := hkP7.cell (j := 4) rfl
        have p5 : W7.cell? ⟨P, 5, none⟩ = some (.slice ab body.length cb) := hkP7.cell (j := 5) rfl
        have hbN := below_new W7 (.cells #[.int .i64 3, .int .i64 t.ep, .int .i64 t.pe, .int .i64 ((t.fi : Int) + (K : Int)), .int .i64 ((t.ne : Int) - 1), .slice ab body.length cb] 34)
        have hkN := Blk.new W7 34 #[.int .i64 3, .int .i64 t.ep, .int .i64 t.pe, .int .i64 ((t.fi : Int) + (K : Int)), .int .i64 ((t.ne : Int) - 1), .slice ab body.length cb]
        have hb8 := hbd7.trans (hbN.mono hbd7.size)
        have hP8 := hPq.after hb8
        have ho8 := hO7.below hbN (Nat.le_refl _)
        have hkG8 := hkG7.below hbN hkG7.lt
        have hpl := hPq.lt
        have hseg : SegA (W7.alloc (.cells #[.int .i64 3, .int .i64 t.ep, .int .i64 t.pe, .int .i64 ((t.fi : Int) + (K : Int)), .int .i64 ((t.ne : Int) - 1), .slice ab body.length cb] 34)) (fun q => T q ∨ (Value.slice ap (datasK t t.se j).length cp).ownBlock = some q) (.slice ab body.length cb) body := ho8.segK (fun q hq => by
          have e2 : W4.drew.heap.size = W4.heap.size := rfl
          have := hb4.size
          rcases hq with e | e
          · have := hwl q e; have := hCq.size; omega
          · have := (hpl q e).2; omega)
        have hw0 : w.heap.size ≤ W0.heap.size := by have := hCq.size; omega
        obtain ⟨v9, W9, r1, r2, r3, r4⟩ := hP8.app (fun q e => .inr e) ⟨W7.heap.size, 0, none⟩ 1 [dataK t K] [.slice ab body.length cb] rfl (fun i u hu => by
          rw [Addr.add_mid, Nat.zero_add]
          refine hkN.cell ?_
          rw [HDK.out] at hu
          simpa [cellsK, kpL] using hu) (fun i u p hu hp => by
          match i, hu, hp with
          | 0, hu, hp => cases hu; cases hp; rw [HDK.out]; exact hseg
          | (i + 1), hu, hp => simp at hu) (by rw [hlj.out]; show j + 1 ≤ _; have := HTOP.out; omega) (by have := hb8.size; omega)
        have hmore : datasK t t.se (j + 1) = datasK t t.se j ++ [dataK t K] := by rw [datasK_more, HKK.out]
        rw [← hmore] at r2
        obtain ⟨a9, c9, rfl⟩ := r2.shape
        have hb89 : Below w.heap.size (W7.alloc (.cells #[.int .i64 3, .int .i64 t.ep, .int .i64 t.pe, .int .i64 ((t.fi : Int) + (K : Int)), .int .i64 ((t.ne : Int) - 1), .slice ab body.length cb] 34)) W9 := (Chg.of_grown r3 (fun k e => e) : Chg (fun q => (Value.slice ap (datasK t t.se j).length cp).ownBlock = some q) _ W9).below (fun q e => (hpl q e).1) (by have := hb8.size; omega)
        have hkG9 := hkG8.below hb89 (by have := hwl G h1.tG; omega)
        have g49 : W9.cell? ⟨G, 4, none⟩ = some (.int .i64 (K : Int)) := hkG9.cell (j := 4) rfl
        have f49 := hkG9.frozen 4
        have hkG10 : Blk (W9.setCell ⟨G, 4, none⟩ (.int .i64 ((K : Int) + 1))) G 47 (rlinkC { t with se := t.se + (j + 1) } (.slice (some ⟨b, off, none⟩) t.wt.length cv)) := (hkG9.set 4 (.int .i64 ((K : Int) + 1))).of_eq (by have := HKK.out; unfold rlinkC; simp; omega)
        have hcg9 : Chg (fun q => w.heap.size ≤ q) W0 W9 := (Chg.of_below (S := fun q => w.heap.size ≤ q) hb8 (Nat.le_refl _)).trans (S' := fun q => w.heap.size ≤ q) (Chg.of_grown r3 (fun k e => (hpl k e).1)) (fun _ _ e => e)
        have hcG : Chg (fun q => q = G) W9 (W9.setCell ⟨G, 4, none⟩ (.int .i64 ((K : Int) + 1))) := (Chg.refl (fun q => q = G) W9).setCell G 4 _ (fun _ => rfl)
        have hC10 : Chg (fun q => q = G) w1 (W9.setCell ⟨G, 4, none⟩ (.int .i64 ((K : Int) + 1))) := (hCq.trans (S' := fun q => w.heap.size ≤ q) hcg9 (fun q hq e => by omega)).trans (S' := fun q => q = G) hcG (fun _ _ e => e)
        have hP10 : PksO (W9.setCell ⟨G, 4, none⟩ (.int .i64 ((K : Int) + 1))) (fun q => T q ∨ (Value.slice a9 (datasK t t.se (j + 1)).length c9).ownBlock = some q) w.heap.size (.slice a9 (datasK t t.se (j + 1)).length c9) (datasK t t.se (j + 1)) := by
          refine PksO.chg (r2.less (fun q hq => ?_)) hcG (fun q e => by rw [e]; exact .inl h1.tG) (fun q hq e => by have := (r2.lt q hq).1; have := hwl G h1.tG; omega)
          rcases hq with e | e
          · exact .inl (.inl e)
          · exact .inr e
        have hn9 : (datasK t t.se (j + 1)).length = j + 1 := datasK_len _ _ _
        have r1' : ∀ ty, (Builtin.append_ #[38, 38] ty #[.slice ap (datasK t t.se j).length cp, .slice (some ⟨W7.heap.size, 0, none⟩) 1 1]).run Try.prog (W7.alloc (.cells #[.int .i64 3, .int .i64 t.ep, .int .i64 t.pe, .int .i64 ((t.fi : Int) + (K : Int)), .int .i64 ((t.ne : Int) - 1), .slice ab body.length cb] 34)) = .ok (.slice a9 (datasK t t.se (j + 1)).length c9) W9 := r1
        have HP10 : Hid (PksO (W9.setCell ⟨G, 4, none⟩ (.int .i64 ((K : Int) + 1))) (fun q => T q ∨ (Value.slice a9 (datasK t t.se (j + 1)).length c9).ownBlock = some q) w.heap.size (.slice a9 (datasK t t.se (j + 1)).length c9) (datasK t t.se (j + 1))) := hP10
        have HJ1 : Hid (j + 1 ≤ topK t - t.se) := (by omega : j + 1 ≤ topK t - t.se)
        have HN9 : Hid ((datasK t t.se (j + 1)).length = j + 1) := hn9
        clear r1 r2 r3 r4 hP10 hn9 hb89 hcg9 hcG hkG9 hseg hw0 hpl hkG8 ho8 hP8 hb8 hkN hbN hmore hO7 hkP7 hkG7 hbd7 hP2 hPq hKq hb2 hB24 hb4
        generalize hnj : (datasK t t.se j).length = nj at r1' ⊢
        generalize hn10 : (datasK t t.se (j + 1)).length = nk at r1' HP10 HN9
        clear hnj hn10
        go_wp2_with (at_builtin; refine app_ranK _ W9 rfl (.tmp 84) (.tmp 86) 38 rfl _ _ _ rfl rfl r1' ?_)
        case roundEnd => exact ⟨⟨j + 1, HJ1.out, HP10.out, hkG10, hC10⟩, by have := hlj.out; have := HN9.out; have := HJ1.out; have := HTOP.out; simp only [lenV]; omega⟩
      · have hK4 : K = topK t := hK2 hlt
        have HE : Hid (j = topK t - t.se ∧ K = max t.se (topK t)) := ⟨by omega, by omega⟩
        have HEND : Hid (∀ V, Below wr.heap.size wr V → (∃ pv, Ending.returned (.slice ap (datasK t t.se j).length cp) = Ending.returned pv ∧ LR V T lo G (.slice av t.wt.length cv) (datasK t t.se (topK t - t.se), { t with se := max t.se (topK t) }).2 ∧ PksO V T w.heap.size pv (datasK t t.se (topK t - t.se), { t with se := max t.se (topK t) }).1 ∧ Chg (fun q => q = G) w V)) := by
          intro V hV
          obtain ⟨e1, e2⟩ := HE.out
          have hCV : Chg (fun q => q = G) w1 V := hC.trans (S' := fun q => q = G) (Chg.of_below hV (Nat.le_refl _)) (fun _ _ e => e)
          have hPf : PksO V T w.heap.size (.slice ap (datasK t t.se j).length cp) (datasK t t.se (topK t - t.se)) := by
            rw [← e1]
            exact (hP.less (fun q e => .inl e)).after hV
          refine ⟨_, rfl, ⟨?_, ?_, HFIN.out, h1.tG, h1.tv, fun q hq => ?_, h1.ge, h1.ne⟩, hPf, hC01.trans (S' := fun q => q = G) hCV (fun _ _ e => e)⟩
          · have := hK.below hV hK.lt
            rw [e2] at this
            exact this
          · exact h1.row.chg hCV (fun q e => by rw [e]; exact h1.tG) (fun q hq e => h1.ne (by rw [← e]; exact hq))
          · have := hwl q hq
            have := hCV.size
            omega
        by_cases hlen : K < t.wt.length
        · have i1 : decide ((K : Int) < (t.wt.length : Int)) = true := decide_eq_true (by omega)
          have i2 : decide ((K : Int) < 4) = false := decide_eq_false (by omega)
          have i3 : decide (K < t.wt.length) = true := decide_eq_true hlen
          clear hP hK hC hK4 htop hK1 hK2 hlt HFIN h1
          generalize hnj : (datasK t t.se j).length = nj at HEND ⊢
          clear hnj hlj HE
          go_wp2_with fail
          go_quiet (fail)
          go_wp2
          go_ret
          refine HEND.out _ ?_
          exact (Below.drewN (Below.refl _ _) _)
        · have i1 : decide ((K : Int) < (t.wt.length : Int)) = false := decide_eq_false (by omega)
          have i3 : decide (K < t.wt.length) = false := decide_eq_false hlen
          clear hP hK hC hK4 htop hK1 hK2 hlt HFIN h1
          generalize hnj : (datasK t t.se j).length = nj at HEND ⊢
          clear hnj hlj HE
          go_wp2_with fail
          go_quiet (fail)
          go_wp2
          go_ret
          refine HEND.out _ ?_
          exact (Below.drewN (Below.refl _ _) _)
  · by_cases h2 : s.ti = 2
    · have hps : passK s = { s with ti := 0, se := 0 } := by unfold passK; rw [if_neg h0, if_pos h2]
      have d1 : decide (0 < s.se) = true := decide_eq_true (by omega)
      have c6' : w.cell? ⟨G, 6, none⟩ = some (.int .i64 2) := by rw [c6, h2]; rfl
      have k1 := h.head.set 6 (.int .i64 3)
      have k2 := k1.set 6 (.int .i64 0)
      have k3 := k2.set 4 (.int .i64 0)
      have f0 := h.head.frozen 6
      have f1 := k1.frozen 6
      have f2 := k2.frozen 4
      have g6 := k1.cell (j := 6) rfl
      have g4 := k2.cell (j := 4) rfl
      obtain ⟨w1, hw1⟩ : ∃ w1, w1 = ((w.setCell ⟨G, 6, none⟩ (.int .i64 3)).setCell ⟨G, 6, none⟩ (.int .i64 0)).setCell ⟨G, 4, none⟩ (.int .i64 0) := ⟨_, rfl⟩
      have hC01 : Chg (fun q => q = G) w w1 := by rw [hw1]; exact (((Chg.refl (fun q => q = G) w).setCell G 6 _ (fun _ => rfl)).setCell G 6 _ (fun _ => rfl)).setCell G 4 _ (fun _ => rfl)
      have hsz : w.heap.size = w1.heap.size := by rw [hw1]; simp
      have hk1 : Blk w1 G 47 (rlinkC (passK s) v) := by rw [hw1, hps]; exact k3.of_eq rfl
      have h1 : LR w1 T lo G v (passK s) := ⟨hk1, by rw [hpw]; exact h.row.chg hC01 (fun q e => by rw [e]; exact h.tG) (fun q hq e => h.ne (by rw [← e]; exact hq)), hpk, h.tG, h.tv, fun q hq => by rw [← hsz]; exact h.lt q hq, h.ge, h.ne⟩
      have HW1 : Hid (w1 = ((w.setCell ⟨G, 6, none⟩ (.int .i64 3)).setCell ⟨G, 6, none⟩ (.int .i64 0)).setCell ⟨G, 4, none⟩ (.int .i64 0)) := hw1
      clear k3 hps HT hpk hpw h0 h2 hw1 hk1 h
      clear k1 k2 c6
      generalize passK s = t at *
      obtain ⟨av, cv, rfl⟩ := h1.row.shape
      go_enter Try.func12, Try.ntmps12
      go_wp2_with fail
      rw [← HW1.out]
      clear d1 hp1 c0 c1 c2 c3 c4 c5 c6' f0 f1 f2 g6 g4 HW1
      have hwl := h1.lt
      have htop : topK t ≤ t.wt.length ∧ topK t ≤ 4 ∧ t.se ≤ topK t ∧ (topK t = 4 ∨ topK t = t.wt.length) := by have := h1.ok.se; unfold topK; omega
      have HTOP : Hid (topK t ≤ t.wt.length ∧ topK t ≤ 4 ∧ t.se ≤ topK t ∧ (topK t = 4 ∨ topK t = t.wt.length)) := htop
      clear htop
      go_loopw [3, 4] (fun pv _ wr => ∃ j, j ≤ topK t - t.se ∧ PksO wr (fun q => T q ∨ pv.ownBlock = some q) w.heap.size pv (datasK t t.se j) ∧ Blk wr G 47 (rlinkC { t with se := t.se + j } (.slice av t.wt.length cv)) ∧ Chg (fun q => q = G) w1 wr) (fun pv _ _ => 5 - lenV pv)
      case atStart => exact ⟨0, Nat.zero_le _, PksO.nil _ _ _, h1.head, Chg.refl _ _⟩
      case round =>
        obtain ⟨j, hj, hP, hK, hC⟩ := hrel
        obtain ⟨ap, cp, rfl⟩ := hP.shape
        have hlj : Hid ((datasK t t.se j).length = j) := datasK_len t t.se j
        obtain ⟨K, hKK⟩ : ∃ K, K = t.se + j := ⟨_, rfl⟩
        rw [← hKK] at hK
        have HKK : Hid (K = t.se + j) := hKK
        have hK1 : j < topK t - t.se → K < topK t := fun e => by omega
        have hK2 : ¬ j < topK t - t.se → K = topK t := fun e => by have := HTOP.out; omega
        clear hKK
        have c4 : wr.cell? ⟨G, 4, none⟩ = some (.int .i64 (K : Int)) := hK.cell (j := 4) rfl
        have c2 : wr.cell? ⟨G, 2, none⟩ = some (.slice av t.wt.length cv) := hK.cell (j := 2) rfl
        have hw16 : t.wt.length ≤ 16 := h1.ok.wt
        have htop := HTOP.out
        by_cases hlt : j < topK t - t.se
        · have hk3 := hK1 hlt
          have hkk : K < t.wt.length := by omega
          have i1 : decide ((K : Int) < (t.wt.length : Int)) = true := decide_eq_true (by omega)
          have i2 : decide ((K : Int) < 4) = true := decide_eq_true (by omega)
          have i3 : decide (K < t.wt.length) = true := decide_eq_true hkk
          clear htop hK1 hK2 hk3
          go_wp2_with fail
          go_quiet (fail)
          have hKq : Blk (wr.drewN nq) G 47 (rlinkC { t with se := K } (.slice av t.wt.length cv)) := hK
          have HB3 : Hid (Calls Try.prog 29 #[.pointer (some ⟨G, 0, none⟩), .int .i64 3] (wr.drewN nq) fun r w' => r = .returned (.agg #[.int .i64 3, .int .i64 t.ep, .int .i64 t.pe, .int .i64 0, .int .i64 0, .slice none 0 0]) ∧ Below (wr.drewN nq).heap.size (wr.drewN nq) w') := bareR_any G { t with se := K } (.slice av t.wt.length cv) 3 _ hKq
          have hPq : PksO (wr.drewN nq) (fun q => T q ∨ (Value.slice ap (datasK t t.se j).length cp).ownBlock = some q) w.heap.size (.slice ap (datasK t t.se j).length cp) (datasK t t.se j) := hP.after (Below.drewN (Below.refl _ _) nq)
          have hCq : Chg (fun q => q = G) w1 (wr.drewN nq) := hC.trans (S' := fun q => q = G) (Chg.of_below (Below.drewN (Below.refl _ _) nq) (Nat.le_refl _)) (fun _ _ e => e)
          clear hK hP hC c4 c2 i1 i2 i3
          generalize wr.drewN nq = W0 at *
          go_wp2_with fail
          refine HB3.out.mono ?_
          rintro e W1 ⟨rfl, hb1⟩
          clear HB3
          obtain ⟨P, hPd⟩ : ∃ P, P = W1.heap.size := ⟨_, rfl⟩
          have hkP : Blk (W1.alloc (.cells #[.int .i64 3, .int .i64 t.ep, .int .i64 t.pe, .int .i64 0, .int .i64 0, .slice none 0 0] 34)) P 34 #[.int .i64 3, .int .i64 t.ep, .int .i64 t.pe, .int .i64 0, .int .i64 0, .slice none 0 0] := by rw [hPd]; exact Blk.new W1 _ _
          have hb2 : Below W0.heap.size W0 (W1.alloc (.cells #[.int .i64 3, .int .i64 t.ep, .int .i64 t.pe, .int .i64 0, .int .i64 0, .slice none 0 0] 34)) := hb1.trans ((below_new W1 _).mono hb1.size)
          have hkG := hKq.below hb2 hKq.lt
          have hP2 := hPq.after hb2
          have hPG : G ≠ P := by have := hKq.lt; have := hb1.size; omega
          have hPl : W0.heap.size ≤ P := by rw [hPd]; exact hb1.size
          go_wp2_with fail
          rw [← hPd]
          have HPL : Hid (W0.heap.size ≤ P) := hPl
          have HPG : Hid (G ≠ P) := hPG
          clear hPd hPl hPG hb1
          generalize W1.alloc (.cells #[.int .i64 3, .int .i64 t.ep, .int .i64 t.pe, .int .i64 0, .int .i64 0, .slice none 0 0] 34) = W2 at *
          have g3 : W2.cell? ⟨G, 3, none⟩ = some (.int .i64 (t.fi : Int)) := hkG.cell (j := 3) rfl
          have g4 : W2.cell? ⟨G, 4, none⟩ = some (.int .i64 (K : Int)) := hkG.cell (j := 4) rfl
          have p3 : W2.cell? ⟨P, 3, none⟩ = some (.int .i64 0) := hkP.cell (j := 3) rfl
          have f3 := hkP.frozen 3
          have hfi : t.fi ≤ 1073741825 := h1.ok.fi.2
          have hK16 : K ≤ 16 := by omega
          refine region_tail 10 (by kernel_rfl) (by kernel_rfl) ?_
          simp only [List.take_succ_cons, List.take_zero, List.drop_succ_cons, List.drop_zero]
          repeat still_step
          refine wpStill_nil ?_
          have g5 : W2.cell? ⟨G, 5, none⟩ = some (.int .i64 (t.ne : Int)) := hkG.cell (j := 5) rfl
          have p4 : W2.cell? ⟨P, 4, none⟩ = some (.int .i64 0) := hkP.cell (j := 4) rfl
          have f4 := hkP.frozen 4
          have hPG1 := HPG.out
          have hPG2 : P ≠ G := fun e => hPG1 e.symm
          have hne : t.ne ≤ 1073741825 := h1.ok.ne.2
          go_wp2_with fail
          have hkP4 := ((hkP.set 3 (.int .i64 ((t.fi : Int) + (K : Int)))).set 4 (.int .i64 ((t.ne : Int) - 1))).drew
          have hkG4 := ((hkG.setOther ⟨P, 3, none⟩ (.int .i64 ((t.fi : Int) + (K : Int))) HPG.out).setOther ⟨P, 4, none⟩ (.int .i64 ((t.ne : Int) - 1)) HPG.out).drew
          have hB24 : Below W0.heap.size W2 ((W2.setCell ⟨P, 3, none⟩ (.int .i64 ((t.fi : Int) + (K : Int)))).setCell ⟨P, 4, none⟩ (.int .i64 ((t.ne : Int) - 1))).drew := ((((Chg.refl (fun q => q = P) W2).setCell P 3 _ (fun _ => rfl)).setCell P 4 _ (fun _ => rfl)).drew).below (fun q e => by rw [e]; exact HPL.out) hb2.size
          have hkP4' : Blk ((W2.setCell ⟨P, 3, none⟩ (.int .i64 ((t.fi : Int) + (K : Int)))).setCell ⟨P, 4, none⟩ (.int .i64 ((t.ne : Int) - 1))).drew P 34 #[.int .i64 3, .int .i64 t.ep, .int .i64 t.pe, .int .i64 ((t.fi : Int) + (K : Int)), .int .i64 ((t.ne : Int) - 1), .slice none 0 0] := hkP4.of_eq rfl
          clear hkP4 g3 g4 g5 p3 p4 f3 f4 hPG1 hPG2 hkP hkG
          generalize ((W2.setCell ⟨P, 3, none⟩ (.int .i64 ((t.fi : Int) + (K : Int)))).setCell ⟨P, 4, none⟩ (.int .i64 ((t.ne : Int) - 1))).drew = W4 at *
          have hb4 : Below W0.heap.size W0 W4 := hb2.trans hB24
          have hrow4 := (h1.row.chg hCq (fun q e => by rw [e]; exact h1.tG) (fun q hq e => h1.ne (by rw [← e]; exact hq))).after hb4
          have hP4 := hPq.after hb4
          obtain ⟨b, off, c, a, cc, e1, hbl, hcb, hsb⟩ := hrow4.at hkk
          cases e1
          have HIX : Hid (∀ V, (Instr.indexAt 41 (.slice (some ⟨b, off, none⟩) t.wt.length cv) (.int .i64 (K : Int))).run Try.prog V = .ok (.pointer (some ⟨b, off + K, none⟩)) V) := fun V => index_rowsK b off t.wt.length cv K hkk V
          have hbody : (t.wt.getD K []).length ≤ 1500 := h1.ok.each _ (by rw [List.getD_eq_getElem?_getD, List.getElem?_eq_getElem hkk]; exact List.getElem_mem hkk)
          have HDK : Hid (dataK t K = ⟨3, t.ep, t.pe, (t.fi : Int) + (K : Int), (t.ne : Int) - 1, t.wt.getD K []⟩) := rfl
          have hTb : T b := h1.tv b rfl
          have hbs : b < W0.heap.size := by have := hwl b hTb; have := hCq.size; omega
          have hGs : G < W0.heap.size := hKq.lt
          have g24 : W4.cell? ⟨G, 2, none⟩ = some (.slice (some ⟨b, off, none⟩) t.wt.length cv) := hkG4.cell (j := 2) rfl
          have g44 : W4.cell? ⟨G, 4, none⟩ = some (.int .i64 (K : Int)) := hkG4.cell (j := 4) rfl
          obtain ⟨body, hbd⟩ : ∃ body, body = t.wt.getD K [] := ⟨_, rfl⟩
          rw [← hbd] at hcb hsb hbody HDK
          clear hbd
          have HSK : Hid (∀ V, Below W0.heap.size W4 V → (V.cell? ⟨G, 2, none⟩ = some (.slice (some ⟨b, off, none⟩) t.wt.length cv) ∧ V.cell? ⟨G, 4, none⟩ = some (.int .i64 (K : Int)) ∧ V.cell? ⟨b, off + K, none⟩ = some (.slice a body.length cc))) := fun V hV => ⟨(hV.cell (p := ⟨G, 2, none⟩) hGs).trans g24, (hV.cell (p := ⟨G, 4, none⟩) hGs).trans g44, (hV.cell (p := ⟨b, off + K, none⟩) hbs).trans hcb⟩
          have hd4 : Below W0.heap.size W4 W4.drew := (Below.refl _ _).drew
          have hS4 := HSK.out _ hd4
          have hd5 : Below W0.heap.size W4 (W4.drew.alloc (.cells #[] 5)) := hd4.alloc (by show W0.heap.size ≤ W4.heap.size; exact hb4.size) _
          have hS5 := HSK.out _ hd5
          have hO5 : Own (W4.drew.alloc (.cells #[] 5)) W4.drew.heap.size (.slice (some ⟨W4.drew.heap.size, 0, none⟩) 0 0) [] := own_emptyD W4.drew W4.drew.heap.size _ rfl (Nat.le_refl _)
          obtain ⟨v7, W6, happ, hO6, hg6, -⟩ := app_bytes _ W4.drew.heap.size _ [] hO5 (.slice a body.length cc) body (hsb.1.drew.alloc _) (by simp only [List.length_nil]; omega) (by simp)
          rw [List.nil_append] at hO6
          obtain ⟨ab, cb, rfl⟩ := hO6.seg.shapeD
          have hd6 : Below W0.heap.size W4 W6 := hd5.grown hg6 (Nat.le_trans hb4.size hd5.size) (fun q hq => by cases hq; exact hb4.size)
          have hdd6 : Below W4.heap.size W4 W6 := (((Below.refl W4.heap.size W4).drew).alloc (Nat.le_refl _) _).grown hg6 (by simp) (fun q hq => by cases hq; exact Nat.le_refl _)
          have hS6 := HSK.out _ hd6
          have hkP6 := hkP4'.below hdd6 hkP4'.lt
          have hd7 : Below W0.heap.size W4 (W6.setCell ⟨P, 5, none⟩ (.slice ab body.length cb)) := hd6.trans (((Chg.refl (fun q => q = P) W6).setCell P 5 _ (fun _ => rfl)).below (fun q e => by rw [e]; exact HPL.out) (Nat.le_trans hb4.size hd6.size))
          have hS7 := HSK.out _ hd7
          have hO7 : Own (W6.setCell ⟨P, 5, none⟩ (.slice ab body.length cb)) W4.drew.heap.size (.slice ab body.length cb) body := hO6.chg ((Chg.refl (fun q => q = P) W6).setCell P 5 _ (fun _ => rfl)) (fun q hq e => by have := (hO6.blocks q hq).1; have := hkP4'.lt; have e2 : W4.drew.heap.size = W4.heap.size := rfl; omega)
          have hkP7 : Blk (W6.setCell ⟨P, 5, none⟩ (.slice ab body.length cb)) P 34 #[.int .i64 3, .int .i64 t.ep, .int .i64 t.pe, .int .i64 ((t.fi : Int) + (K : Int)), .int .i64 ((t.ne : Int) - 1), .slice ab body.length cb] := (hkP6.set 5 _).of_eq rfl
          have hkG7 : Blk (W6.setCell ⟨P, 5, none⟩ (.slice ab body.length cb)) G 47 (rlinkC { t with se := K } (.slice (some ⟨b, off, none⟩) t.wt.length cv)) := (hkG4.below hdd6 hkG4.lt).setOther ⟨P, 5, none⟩ _ HPG.out
          have hbd7 : Below W0.heap.size W0 (W6.setCell ⟨P, 5, none⟩ (.slice ab body.length cb)) := hb4.trans hd7
          clear hd7 hd6 hdd6 hd5 hP4 hrow4 hg6
          go_wp2_with fail
          refine held_begin (fun V => V.cell? ⟨G, 2, none⟩ = some (.slice (some ⟨b, off, none⟩) t.wt.length cv) ∧ V.cell? ⟨G, 4, none⟩ = some (.int .i64 (K : Int)) ∧ V.cell? ⟨b, off + K, none⟩ = some (.slice a body.length cc)) (by kernel_rfl) ?_
          refine held_take 1 72 _ (.pointer (some ⟨G, 0, none⟩)) rfl rfl (by kernel_rfl) (by kernel_rfl) (by kernel_rfl) rfl hS4 (fun _ _ => rfl) ?_
          simp only [Act.put, List.setIfInBounds_toArray, List.set_cons_succ, List.set_cons_zero]
          refine held_take 2 73 _ (.pointer (some ⟨G, 0, none⟩)) rfl rfl (by kernel_rfl) (by kernel_rfl) (by kernel_rfl) rfl hS4 (fun _ _ => rfl) ?_
          simp only [Act.put, List.setIfInBounds_toArray, List.set_cons_succ, List.set_cons_zero]
          refine held_take 3 74 _ (.pointer (some ⟨G, 2, none⟩)) rfl rfl (by kernel_rfl) (by kernel_rfl) (by kernel_rfl) rfl hS4 (fun _ _ => rfl) ?_
          simp only [Act.put, List.setIfInBounds_toArray, List.set_cons_succ, List.set_cons_zero]
          refine held_take 4 75 _ (.slice (some ⟨b, off, none⟩) t.wt.length cv) rfl rfl (by kernel_rfl) (by kernel_rfl) (by kernel_rfl) rfl hS4 (fun V hV => exec_loadc 41 _ rfl _ _ rfl (load_one 41 (fun _ => by kernel_rfl) V _ _ _ hV.1)) ?_
          simp only [Act.put, List.setIfInBounds_toArray, List.set_cons_succ, List.set_cons_zero]
          refine held_take 5 76 _ (.pointer (some ⟨G, 0, none⟩)) rfl rfl (by kernel_rfl) (by kernel_rfl) (by kernel_rfl) rfl hS4 (fun _ _ => rfl) ?_
          simp only [Act.put, List.setIfInBounds_toArray, List.set_cons_succ, List.set_cons_zero]
          refine held_take 6 77 _ (.pointer (some ⟨G, 0, none⟩)) rfl rfl (by kernel_rfl) (by kernel_rfl) (by kernel_rfl) rfl hS4 (fun _ _ => rfl) ?_
          simp only [Act.put, List.setIfInBounds_toArray, List.set_cons_succ, List.set_cons_zero]
          refine held_take 7 78 _ (.pointer (some ⟨G, 4, none⟩)) rfl rfl (by kernel_rfl) (by kernel_rfl) (by kernel_rfl) rfl hS4 (fun _ _ => rfl) ?_
          simp only [Act.put, List.setIfInBounds_toArray, List.set_cons_succ, List.set_cons_zero]
          refine held_take 8 79 _ (.int .i64 (K : Int)) rfl rfl (by kernel_rfl) (by kernel_rfl) (by kernel_rfl) rfl hS4 (fun V hV => exec_loadc 3 _ rfl _ _ rfl (load_one 3 (fun _ => by kernel_rfl) V _ _ _ hV.2.1)) ?_
          simp only [Act.put, List.setIfInBounds_toArray, List.set_cons_succ, List.set_cons_zero]
          refine held_take 9 80 _ (.pointer (some ⟨b, off + K, none⟩)) rfl rfl (by kernel_rfl) (by kernel_rfl) (by kernel_rfl) rfl hS4 (fun V _ => exec_indexat 41 _ _ rfl (.slice (some ⟨b, off, none⟩) t.wt.length cv) (.int .i64 (K : Int)) _ rfl rfl (HIX.out V)) ?_
          simp only [Act.put, List.setIfInBounds_toArray, List.set_cons_succ, List.set_cons_zero]
          refine held_take 10 81 _ (.slice a body.length cc) rfl rfl (by kernel_rfl) (by kernel_rfl) (by kernel_rfl) rfl hS4 (fun V hV => exec_loadc 32 _ rfl _ _ rfl (load_one 32 (fun _ => by kernel_rfl) V _ _ _ hV.2.2)) ?_
          simp only [Act.put, List.setIfInBounds_toArray, List.set_cons_succ, List.set_cons_zero]
          refine held_all1 0 (by kernel_rfl) (op_value 0 71 _ (.slice (some ⟨W4.drew.heap.size, 0, none⟩) 0 0) (W4.drew.alloc (.cells #[] 5)) rfl rfl rfl (exec_empty rfl) ⟨hS5, ?_⟩)
          simp only [Act.put, List.setIfInBounds_toArray, List.set_cons_succ, List.set_cons_zero]
          refine held_all1 11 (by kernel_rfl) (op_value 11 82 _ (.slice ab body.length cb) (W6) rfl rfl rfl (exec_app (.tmp 71) (.tmp 81) 32 32 rfl (.slice (some ⟨W4.drew.heap.size, 0, none⟩) 0 0) (.slice a body.length cc) (.slice ab body.length cb) rfl rfl happ) ⟨hS6, ?_⟩)
          simp only [Act.put, List.setIfInBounds_toArray, List.set_cons_succ, List.set_cons_zero]
          refine held_take 12 83 _ (.pointer (some ⟨P, 5, none⟩)) rfl rfl (by kernel_rfl) (by kernel_rfl) (by kernel_rfl) rfl hS6 (fun _ _ => rfl) ?_
          simp only [Act.put, List.setIfInBounds_toArray, List.set_cons_succ, List.set_cons_zero]
          refine held_all1 13 (by kernel_rfl) (op_skip 13 _ (W6.setCell ⟨P, 5, none⟩ (.slice ab body.length cb)) rfl rfl rfl (exec_stores _ _ rfl P 5 ab body.length cb _ rfl rfl (hkP6.cell (j := 5) rfl) (hkP6.frozen 5)) ⟨hS7, ?_⟩)
          refine wpAnyH_done (by kernel_rfl) ?_ _
          refine NoPanic.normal ?_
          clear hS4 hS5 hS6 hS7 hkP6 hO5 hO6 happ HSK HIX g24 g44 hcb hsb
          generalize W6.setCell ⟨P, 5, none⟩ (.slice ab body.length cb) = W7 at *
          have p0 : W7.cell? ⟨P, 0, none⟩ = some (.int .i64 3) := hkP7.cell (j := 0) rfl
          have p1 : W7.cell? ⟨P, 1, none⟩ = some (.int .i64 t.ep) := hkP7.cell (j := 1) rfl
          have p2 : W7.cell? ⟨P, 2, none⟩ = some (.int .i64 t.pe) := hkP7.cell (j := 2) rfl
          have p3 : W7.cell? ⟨P, 3, none⟩ = some (.int .i64 ((t.fi : Int) + (K : Int))) := hkP7.cell (j := 3) rfl
          have p4 : W7.cell? ⟨P, 4, none⟩ = some (.int .i64 ((t.ne : Int) - 1)) := hkP7.cell (j := 4) rfl
          have p5 : W7.cell? ⟨P, 5, none⟩ = some (.slice ab body.length cb) := hkP7.cell (j := 5) rfl
          have hbN := below_new W7 (.cells #[.int .i64 3, .int .i64 t.ep, .int .i64 t.pe, .int .i64 ((t.fi : Int) + (K : Int)), .int .i64 ((t.ne : Int) - 1), .slice ab body.length cb] 34)
          have hkN := Blk.new W7 34 #[.int .i64 3, .int .i64 t.ep, .int .i64 t.pe, .int .i64 ((t.fi : Int) + (K : Int)), .int .i64 ((t.ne : Int) - 1), .slice ab body.length cb]
          have hb8 := hbd7.trans (hbN.mono hbd7.size)
          have hP8 := hPq.after hb8
          have ho8 := hO7.below hbN (Nat.le_refl _)
          have hkG8 := hkG7.below hbN hkG7.lt
          have hpl := hPq.lt
          have hseg : SegA (W7.alloc (.cells #[.int .i64 3, .int .i64 t.ep, .int .i64 t.pe, .int .i64 ((t.fi : Int) + (K : Int)), .int .i64 ((t.ne : Int) - 1), .slice ab body.length cb] 34)) (fun q => T q ∨ (Value.slice ap (datasK t t.se j).length cp).ownBlock = some q) (.slice ab body.length cb) body := ho8.segK (fun q hq => by
            have e2 : W4.drew.heap.size = W4.heap.size := rfl
            have := hb4.size
            rcases hq with e | e
            · have := hwl q e; have := hCq.size; omega
            · have := (hpl q e).2; omega)
          have hw0 : w.heap.size ≤ W0.heap.size := by have := hCq.size; omega
          obtain ⟨v9, W9, r1, r2, r3, r4⟩ := hP8.app (fun q e => .inr e) ⟨W7.heap.size, 0, none⟩ 1 [dataK t K] [.slice ab body.length cb] rfl (fun i u hu => by
            rw [Addr.add_mid, Nat.zero_add]
            refine hkN.cell ?_
            rw [HDK.out] at hu
            simpa [cellsK, kpL] using hu) (fun i u p hu hp => by
            match i, hu, hp with
            | 0, hu, hp => cases hu; cases hp; rw [HDK.out]; exact hseg
            | (i + 1), hu, hp => simp at hu) (by rw [hlj.out]; show j + 1 ≤ _; have := HTOP.out; omega) (by have := hb8.size; omega)
          have hmore : datasK t t.se (j + 1) = datasK t t.se j ++ [dataK t K] := by rw [datasK_more, HKK.out]
          rw [← hmore] at r2
          obtain ⟨a9, c9, rfl⟩ := r2.shape
          have hb89 : Below w.heap.size (W7.alloc (.cells #[.int .i64 3, .int .i64 t.ep, .int .i64 t.pe, .int .i64 ((t.fi : Int) + (K : Int)), .int .i64 ((t.ne : Int) - 1), .slice ab body.length cb] 34)) W9 := (Chg.of_grown r3 (fun k e => e) : Chg (fun q => (Value.slice ap (datasK t t.se j).length cp).ownBlock = some q) _ W9).below (fun q e => (hpl q e).1) (by have := hb8.size; omega)
          have hkG9 := hkG8.below hb89 (by have := hwl G h1.tG; omega)
          have g49 : W9.cell? ⟨G, 4, none⟩ = some (.int .i64 (K : Int)) := hkG9.cell (j := 4) rfl
          have f49 := hkG9.frozen 4
          have hkG10 : Blk (W9.setCell ⟨G, 4, none⟩ (.int .i64 ((K : Int) + 1))) G 47 (rlinkC { t with se := t.se + (j + 1) } (.slice (some ⟨b, off, none⟩) t.wt.length cv)) := (hkG9.set 4 (.int .i64 ((K : Int) + 1))).of_eq (by have := HKK.out; unfold rlinkC; simp; omega)
          have hcg9 : Chg (fun q => w.heap.size ≤ q) W0 W9 := (Chg.of_below (S := fun q => w.heap.size ≤ q) hb8 (Nat.le_refl _)).trans (S' := fun q => w.heap.size ≤ q) (Chg.of_grown r3 (fun k e => (hpl k e).1)) (fun _ _ e => e)
          have hcG : Chg (fun q => q = G) W9 (W9.setCell ⟨G, 4, none⟩ (.int .i64 ((K : Int) + 1))) := (Chg.refl (fun q => q = G) W9).setCell G 4 _ (fun _ => rfl)
          have hC10 : Chg (fun q => q = G) w1 (W9.setCell ⟨G, 4, none⟩ (.int .i64 ((K : Int) + 1))) := (hCq.trans (S' := fun q => w.heap.size ≤ q) hcg9 (fun q hq e => by omega)).trans (S' := fun q => q = G) hcG (fun _ _ e => e)
          have hP10 : PksO (W9.setCell ⟨G, 4, none⟩ (.int .i64 ((K : Int) + 1))) (fun q => T q ∨ (Value.slice a9 (datasK t t.se (j + 1)).length c9).ownBlock = some q) w.heap.size (.slice a9 (datasK t t.se (j + 1)).length c9) (datasK t t.se (j + 1)) := by
            refine PksO.chg (r2.less (fun q hq => ?_)) hcG (fun q e => by rw [e]; exact .inl h1.tG) (fun q hq e => by have := (r2.lt q hq).1; have := hwl G h1.tG; omega)
            rcases hq with e | e
            · exact .inl (.inl e)
            · exact .inr e
          have hn9 : (datasK t t.se (j + 1)).length = j + 1 := datasK_len _ _ _
          have r1' : ∀ ty, (Builtin.append_ #[38, 38] ty #[.slice ap (datasK t t.se j).length cp, .slice (some ⟨W7.heap.size, 0, none⟩) 1 1]).run Try.prog (W7.alloc (.cells #[.int .i64 3, .int .i64 t.ep, .int .i64 t.pe, .int .i64 ((t.fi : Int) + (K : Int)), .int .i64 ((t.ne : Int) - 1), .slice ab body.length cb] 34)) = .ok (.slice a9 (datasK t t.se (j + 1)).length c9) W9 := r1
          have HP10 : Hid (PksO (W9.setCell ⟨G, 4, none⟩ (.int .i64 ((K : Int) + 1))) (fun q => T q ∨ (Value.slice a9 (datasK t t.se (j + 1)).length c9).ownBlock = some q) w.heap.size (.slice a9 (datasK t t.se (j + 1)).length c9) (datasK t t.se (j + 1))) := hP10
          have HJ1 : Hid (j + 1 ≤ topK t - t.se) := (by omega : j + 1 ≤ topK t - t.se)
          have HN9 : Hid ((datasK t t.se (j + 1)).length = j + 1) := hn9
          clear r1 r2 r3 r4 hP10 hn9 hb89 hcg9 hcG hkG9 hseg hw0 hpl hkG8 ho8 hP8 hb8 hkN hbN hmore hO7 hkP7 hkG7 hbd7 hP2 hPq hKq hb2 hB24 hb4
          generalize hnj : (datasK t t.se j).length = nj at r1' ⊢
          generalize hn10 : (datasK t t.se (j + 1)).length = nk at r1' HP10 HN9
          clear hnj hn10
          go_wp2_with (at_builtin; refine app_ranK _ W9 rfl (.tmp 84) (.tmp 86) 38 rfl _ _ _ rfl rfl r1' ?_)
          case roundEnd => exact ⟨⟨j + 1, HJ1.out, HP10.out, hkG10, hC10⟩, by have := hlj.out; have := HN9.out; have := HJ1.out; have := HTOP.out; simp only [lenV]; omega⟩
        · have hK4 : K = topK t := hK2 hlt
          have HE : Hid (j = topK t - t.se ∧ K = max t.se (topK t)) := ⟨by omega, by omega⟩
          have HEND : Hid (∀ V, Below wr.heap.size wr V → (∃ pv, Ending.returned (.slice ap (datasK t t.se j).length cp) = Ending.returned pv ∧ LR V T lo G (.slice av t.wt.length cv) (datasK t t.se (topK t - t.se), { t with se := max t.se (topK t) }).2 ∧ PksO V T w.heap.size pv (datasK t t.se (topK t - t.se), { t with se := max t.se (topK t) }).1 ∧ Chg (fun q => q = G) w V)) := by
            intro V hV
            obtain ⟨e1, e2⟩ := HE.out
            have hCV : Chg (fun q => q = G) w1 V := hC.trans (S' := fun q => q = G) (Chg.of_below hV (Nat.le_refl _)) (fun _ _ e => e)
            have hPf : PksO V T w.heap.size (.slice ap (datasK t t.se j).length cp) (datasK t t.se (topK t - t.se)) := by
              rw [← e1]
              exact (hP.less (fun q e => .inl e)).after hV
            refine ⟨_, rfl, ⟨?_, ?_, HFIN.out, h1.tG, h1.tv, fun q hq => ?_, h1.ge, h1.ne⟩, hPf, hC01.trans (S' := fun q => q = G) hCV (fun _ _ e => e)⟩
            · have := hK.below hV hK.lt
              rw [e2] at this
              exact this
            · exact h1.row.chg hCV (fun q e => by rw [e]; exact h1.tG) (fun q hq e => h1.ne (by rw [← e]; exact hq))
            · have := hwl q hq
              have := hCV.size
              omega
          by_cases hlen : K < t.wt.length
          · have i1 : decide ((K : Int) < (t.wt.length : Int)) = true := decide_eq_true (by omega)
            have i2 : decide ((K : Int) < 4) = false := decide_eq_false (by omega)
            have i3 : decide (K < t.wt.length) = true := decide_eq_true hlen
            clear hP hK hC hK4 htop hK1 hK2 hlt HFIN h1
            generalize hnj : (datasK t t.se j).length = nj at HEND ⊢
            clear hnj hlj HE
            go_wp2_with fail
            go_quiet (fail)
            go_wp2
            go_ret
            refine HEND.out _ ?_
            exact (Below.drewN (Below.refl _ _) _)
          · have i1 : decide ((K : Int) < (t.wt.length : Int)) = false := decide_eq_false (by omega)
            have i3 : decide (K < t.wt.length) = false := decide_eq_false hlen
            clear hP hK hC hK4 htop hK1 hK2 hlt HFIN h1
            generalize hnj : (datasK t t.se j).length = nj at HEND ⊢
            clear hnj hlj HE
            go_wp2_with fail
            go_quiet (fail)
            go_wp2
            go_ret
            refine HEND.out _ ?_
            exact (Below.drewN (Below.refl _ _) _)
    · have hps : passK s = { s with ti := s.ti + 1 } := by unfold passK; rw [if_neg h0, if_neg h2]
      have d1 : decide (0 < s.se) = true := decide_eq_true (by omega)
      have hti2 : s.ti ≤ 2 := h.ok.ti
      have d2 : ((s.ti : Int) + 1 == 3) = false := beq_eq_false_iff_ne.2 (by omega)
      have k1 := h.head.set 6 (.int .i64 ((s.ti : Int) + 1))
      have f0 := h.head.frozen 6
      have g6 := k1.cell (j := 6) rfl
      obtain ⟨w1, hw1⟩ : ∃ w1, w1 = w.setCell ⟨G, 6, none⟩ (.int .i64 ((s.ti : Int) + 1)) := ⟨_, rfl⟩
      have hC01 : Chg (fun q => q = G) w w1 := by rw [hw1]; exact (Chg.refl (fun q => q = G) w).setCell G 6 _ (fun _ => rfl)
      have hsz : w.heap.size = w1.heap.size := by rw [hw1]; simp
      have hk1 : Blk w1 G 47 (rlinkC (passK s) v) := by rw [hw1, hps]; exact k1.of_eq (by unfold rlinkC; simp)
      have h1 : LR w1 T lo G v (passK s) := ⟨hk1, by rw [hpw]; exact h.row.chg hC01 (fun q e => by rw [e]; exact h.tG) (fun q hq e => h.ne (by rw [← e]; exact hq)), hpk, h.tG, h.tv, fun q hq => by rw [← hsz]; exact h.lt q hq, h.ge, h.ne⟩
      have HW1 : Hid (w1 = w.setCell ⟨G, 6, none⟩ (.int .i64 ((s.ti : Int) + 1))) := hw1
      clear k1 hps HT hpk hpw h0 h2 hw1 hk1 h
      generalize passK s = t at *
      obtain ⟨av, cv, rfl⟩ := h1.row.shape
      go_enter Try.func12, Try.ntmps12
      go_wp2_with fail
      rw [← HW1.out]
      clear d1 d2 hp1 c0 c1 c2 c3 c4 c5 c6 f0 g6 HW1
      have hwl := h1.lt
      have htop : topK t ≤ t.wt.length ∧ topK t ≤ 4 ∧ t.se ≤ topK t ∧ (topK t = 4 ∨ topK t = t.wt.length) := by have := h1.ok.se; unfold topK; omega
      have HTOP : Hid (topK t ≤ t.wt.length ∧ topK t ≤ 4 ∧ t.se ≤ topK t ∧ (topK t = 4 ∨ topK t = t.wt.length)) := htop
      clear htop
      go_loopw [3, 4] (fun pv _ wr => ∃ j, j ≤ topK t - t.se ∧ PksO wr (fun q => T q ∨ pv.ownBlock = some q) w.heap.size pv (datasK t t.se j) ∧ Blk wr G 47 (rlinkC { t with se := t.se + j } (.slice av t.wt.length cv)) ∧ Chg (fun q => q = G) w1 wr) (fun pv _ _ => 5 - lenV pv)
      case atStart => exact ⟨0, Nat.zero_le _, PksO.nil _ _ _, h1.head, Chg.refl _ _⟩
      case round =>
        obtain ⟨j, hj, hP, hK, hC⟩ := hrel
        obtain ⟨ap, cp, rfl⟩ := hP.shape
        have hlj : Hid ((datasK t t.se j).length = j) := datasK_len t t.se j
        obtain ⟨K, hKK⟩ : ∃ K, K = t.se + j := ⟨_, rfl⟩
        rw [← hKK] at hK
        have HKK : Hid (K = t.se + j) := hKK
        have hK1 : j < topK t - t.se → K < topK t := fun e => by omega
        have hK2 : ¬ j < topK t - t.se → K = topK t := fun e => by have := HTOP.out; omega
        clear hKK
        have c4 : wr.cell? ⟨G, 4, none⟩ = some (.int .i64 (K : Int)) := hK.cell (j := 4) rfl
        have c2 : wr.cell? ⟨G, 2, none⟩ = some (.slice av t.wt.length cv) := hK.cell (j := 2) rfl
        have hw16 : t.wt.length ≤ 16 := h1.ok.wt
        have htop := HTOP.out
        by_cases hlt : j < topK t - t.se
        · have hk3 := hK1 hlt
          have hkk : K < t.wt.length := by omega
          have i1 : decide ((K : Int) < (t.wt.length : Int)) = true := decide_eq_true (by omega)
          have i2 : decide ((K : Int) < 4) = true := decide_eq_true (by omega)
          have i3 : decide (K < t.wt.length) = true := decide_eq_true hkk
          clear htop hK1 hK2 hk3
          go_wp2_with fail
          go_quiet (fail)
          have hKq : Blk (wr.drewN nq) G 47 (rlinkC { t with se := K } (.slice av t.wt.length cv)) := hK
          have HB3 : Hid (Calls Try.prog 29 #[.pointer (some ⟨G, 0, none⟩), .int .i64 3] (wr.drewN nq) fun r w' => r = .returned (.agg #[.int .i64 3, .int .i64 t.ep, .int .i64 t.pe, .int .i64 0, .int .i64 0, .slice none 0 0]) ∧ Below (wr.drewN nq).heap.size (wr.drewN nq) w') := bareR_any G { t with se := K } (.slice av t.wt.length cv) 3 _ hKq
          have hPq : PksO (wr.drewN nq) (fun q => T q ∨ (Value.slice ap (datasK t t.se j).length cp).ownBlock = some q) w.heap.size (.slice ap (datasK t t.se j).length cp) (datasK t t.se j) := hP.after (Below.drewN (Below.refl _ _) nq)
          have hCq : Chg (fun q => q = G) w1 (wr.drewN nq) := hC.trans (S' := fun q => q = G) (Chg.of_below (Below.drewN (Below.refl _ _) nq) (Nat.le_refl _)) (fun _ _ e => e)
          clear hK hP hC c4 c2 i1 i2 i3
          generalize wr.drewN nq = W0 at *
          go_wp2_with fail
          refine HB3.out.mono ?_
          rintro e W1 ⟨rfl, hb1⟩
          clear HB3
          obtain ⟨P, hPd⟩ : ∃ P, P = W1.heap.size := ⟨_, rfl⟩
          have hkP : Blk (W1.alloc (.cells #[.int .i64 3, .int .i64 t.ep, .int .i64 t.pe, .int .i64 0, .int .i64 0, .slice none 0 0] 34)) P 34 #[.int .i64 3, .int .i64 t.ep, .int .i64 t.pe, .int .i64 0, .int .i64 0, .slice none 0 0] := by rw [hPd]; exact Blk.new W1 _ _
          have hb2 : Below W0.heap.size W0 (W1.alloc (.cells #[.int .i64 3, .int .i64 t.ep, .int .i64 t.pe, .int .i64 0, .int .i64 0, .slice none 0 0] 34)) := hb1.trans ((below_new W1 _).mono hb1.size)
          have hkG := hKq.below hb2 hKq.lt
          have hP2 := hPq.after hb2
          have hPG : G ≠ P := by have := hKq.lt; have := hb1.size; omega
          have hPl : W0.heap.size ≤ P := by rw [hPd]; exact hb1.size
          go_wp2_with fail
          rw [← hPd]
          have HPL : Hid (W0.heap.size ≤ P) := hPl
          have HPG : Hid (G ≠ P) := hPG
          clear hPd hPl hPG hb1
          generalize W1.alloc (.cells #[.int .i64 3, .int .i64 t.ep, .int .i64 t.pe, .int .i64 0, .int .i64 0, .slice none 0 0] 34) = W2 at *
          have g3 : W2.cell? ⟨G, 3, none⟩ = some (.int .i64 (t.fi : Int)) := hkG.cell (j := 3) rfl
          have g4 : W2.cell? ⟨G, 4, none⟩ = some (.int .i64 (K : Int)) := hkG.cell (j := 4) rfl
          have p3 : W2.cell? ⟨P, 3, none⟩ = some (.int .i64 0) := hkP.cell (j := 3) rfl
          have f3 := hkP.frozen 3
          have hfi : t.fi ≤ 1073741825 := h1.ok.fi.2
          have hK16 : K ≤ 16 := by omega
          refine region_tail 10 (by kernel_rfl) (by kernel_rfl) ?_
          simp only [List.take_succ_cons, List.take_zero, List.drop_succ_cons, List.drop_zero]
          repeat still_step
          refine wpStill_nil ?_
          have g5 : W2.cell? ⟨G, 5, none⟩ = some (.int .i64 (t.ne : Int)) := hkG.cell (j := 5) rfl
          have p4 : W2.cell? ⟨P, 4, none⟩ = some (.int .i64 0) := hkP.cell (j := 4) rfl
          have f4 := hkP.frozen 4
          have hPG1 := HPG.out
          have hPG2 : P ≠ G := fun e => hPG1 e.symm
          have hne : t.ne ≤ 1073741825 := h1.ok.ne.2
          go_wp2_with fail
          have hkP4 := ((hkP.set 3 (.int .i64 ((t.fi : Int) + (K : Int)))).set 4 (.int .i64 ((t.ne : Int) - 1))).drew
          have hkG4 := ((hkG.setOther ⟨P, 3, none⟩ (.int .i64 ((t.fi : Int) + (K : Int))) HPG.out).setOther ⟨P, 4, none⟩ (.int .i64 ((t.ne : Int) - 1)) HPG.out).drew
          have hB24 : Below W0.heap.size W2 ((W2.setCell ⟨P, 3, none⟩ (.int .i64 ((t.fi : Int) + (K : Int)))).setCell ⟨P, 4, none⟩ (.int .i64 ((t.ne : Int) - 1))).drew := ((((Chg.refl (fun q => q = P) W2).setCell P 3 _ (fun _ => rfl)).setCell P 4 _ (fun _ => rfl)).drew).below (fun q e => by rw [e]; exact HPL.out) hb2.size
          have hkP4' : Blk ((W2.setCell ⟨P, 3, none⟩ (.int .i64 ((t.fi : Int) + (K : Int)))).setCell ⟨P, 4, none⟩ (.int .i64 ((t.ne : Int) - 1))).drew P 34 #[.int .i64 3, .int .i64 t.ep, .int .i64 t.pe, .int .i64 ((t.fi : Int) + (K : Int)), .int .i64 ((t.ne : Int) - 1), .slice none 0 0] := hkP4.of_eq rfl
          clear hkP4 g3 g4 g5 p3 p4 f3 f4 hPG1 hPG2 hkP hkG
          generalize ((W2.setCell ⟨P, 3, none⟩ (.int .i64 ((t.fi : Int) + (K : Int)))).setCell ⟨P, 4, none⟩ (.int .i64 ((t.ne : Int) - 1))).drew = W4 at *
          have hb4 : Below W0.heap.size W0 W4 := hb2.trans hB24
          have hrow4 := (h1.row.chg hCq (fun q e => by rw [e]; exact h1.tG) (fun q hq e => h1.ne (by rw [← e]; exact hq))).after hb4
          have hP4 := hPq.after hb4
          obtain ⟨b, off, c, a, cc, e1, hbl, hcb, hsb⟩ := hrow4.at hkk
          cases e1
          have HIX : Hid (∀ V, (Instr.indexAt 41 (.slice (some ⟨b, off, none⟩) t.wt.length cv) (.int .i64 (K : Int))).run Try.prog V = .ok (.pointer (some ⟨b, off + K, none⟩)) V) := fun V => index_rowsK b off t.wt.length cv K hkk V
          have hbody : (t.wt.getD K []).length ≤ 1500 := h1.ok.each _ (by rw [List.getD_eq_getElem?_getD, List.getElem?_eq_getElem hkk]; exact List.getElem_mem hkk)
          have HDK : Hid (dataK t K = ⟨3, t.ep, t.pe, (t.fi : Int) + (K : Int), (t.ne : Int) - 1, t.wt.getD K []⟩) := rfl
          have hTb : T b := h1.tv b rfl
          have hbs : b < W0.heap.size := by have := hwl b hTb; have := hCq.size; omega
          have hGs : G < W0.heap.size := hKq.lt
          have g24 : W4.cell? ⟨G, 2, none⟩ = some (.slice (some ⟨b, off, none⟩) t.wt.length cv) := hkG4.cell (j := 2) rfl
          have g44 : W4.cell? ⟨G, 4, none⟩ = some (.int .i64 (K : Int)) := hkG4.cell (j := 4) rfl
          obtain ⟨body, hbd⟩ : ∃ body, body = t.wt.getD K [] := ⟨_, rfl⟩
          rw [← hbd] at hcb hsb hbody HDK
          clear hbd
          have HSK : Hid (∀ V, Below W0.heap.size W4 V → (V.cell? ⟨G, 2, none⟩ = some (.slice (some ⟨b, off, none⟩) t.wt.length cv) ∧ V.cell? ⟨G, 4, none⟩ = some (.int .i64 (K : Int)) ∧ V.cell? ⟨b, off + K, none⟩ = some (.slice a body.length cc))) := fun V hV => ⟨(hV.cell (p := ⟨G, 2, none⟩) hGs).trans g24, (hV.cell (p := ⟨G, 4, none⟩) hGs).trans g44, (hV.cell (p := ⟨b, off + K, none⟩) hbs).trans hcb⟩
          have hd4 : Below W0.heap.size W4 W4.drew := (Below.refl _ _).drew
          have hS4 := HSK.out _ hd4
          have hd5 : Below W0.heap.size W4 (W4.drew.alloc (.cells #[] 5)) := hd4.alloc (by show W0.heap.size ≤ W4.heap.size; exact hb4.size) _
          have hS5 := HSK.out _ hd5
          have hO5 : Own (W4.drew.alloc (.cells #[] 5)) W4.drew.heap.size (.slice (some ⟨W4.drew.heap.size, 0, none⟩) 0 0) [] := own_emptyD W4.drew W4.drew.heap.size _ rfl (Nat.le_refl _)
          obtain ⟨v7, W6, happ, hO6, hg6, -⟩ := app_bytes _ W4.drew.heap.size _ [] hO5 (.slice a body.length cc) body (hsb.1.drew.alloc _) (by simp only [List.length_nil]; omega) (by simp)
          rw [List.nil_append] at hO6
          obtain ⟨ab, cb, rfl⟩ := hO6.seg.shapeD
          have hd6 : Below W0.heap.size W4 W6 := hd5.grown hg6 (Nat.le_trans hb4.size hd5.size) (fun q hq => by cases hq; exact hb4.size)
          have hdd6 : Below W4.heap.size W4 W6 := (((Below.refl W4.heap.size W4).drew).alloc (Nat.le_refl _) _).grown hg6 (by simp) (fun q hq => by cases hq; exact Nat.le_refl _)
          have hS6 := HSK.out _ hd6
          have hkP6 := hkP4'.below hdd6 hkP4'.lt
          have hd7 : Below W0.heap.size W4 (W6.setCell ⟨P, 5, none⟩ (.slice ab body.length cb)) := hd6.trans (((Chg.refl (fun q => q = P) W6).setCell P 5 _ (fun _ => rfl)).below (fun q e => by rw [e]; exact HPL.out) (Nat.le_trans hb4.size hd6.size))
          have hS7 := HSK.out _ hd7
          have hO7 : Own (W6.setCell ⟨P, 5, none⟩ (.slice ab body.length cb)) W4.drew.heap.size (.slice ab body.length cb) body := hO6.chg ((Chg.refl (fun q => q = P) W6).setCell P 5 _ (fun _ => rfl)) (fun q hq e => by have := (hO6.blocks q hq).1; have := hkP4'.lt; have e2 : W4.drew.heap.size = W4.heap.size := rfl; omega)
          have hkP7 : Blk (W6.setCell ⟨P, 5, none⟩ (.slice ab body.length cb)) P 34 #[.int .i64 3, .int .i64 t.ep, .int .i64 t.pe, .int .i64 ((t.fi : Int) + (K : Int)), .int .i64 ((t.ne : Int) - 1), .slice ab body.length cb] := (hkP6.set 5 _).of_eq rfl
          have hkG7 : Blk (W6.setCell ⟨P, 5, none⟩ (.slice ab body.length cb)) G 47 (rlinkC { t with se := K } (.slice (some ⟨b, off, none⟩) t.wt.length cv)) := (hkG4.below hdd6 hkG4.lt).setOther ⟨P, 5, none⟩ _ HPG.out
          have hbd7 : Below W0.heap.size W0 (W6.setCell ⟨P, 5, none⟩ (.slice ab body.length cb)) := hb4.trans hd7
          clear hd7 hd6 hdd6 hd5 hP4 hrow4 hg6
          go_wp2_with fail
          refine held_begin (fun V => V.cell? ⟨G, 2, none⟩ = some (.slice (some ⟨b, off, none⟩) t.wt.length cv) ∧ V.cell? ⟨G, 4, none⟩ = some (.int .i64 (K : Int)) ∧ V.cell? ⟨b, off + K, none⟩ = some (.slice a body.length cc)) (by kernel_rfl) ?_
          refine held_take 1 72 _ (.pointer (some ⟨G, 0, none⟩)) rfl rfl (by kernel_rfl) (by kernel_rfl) (by kernel_rfl) rfl hS4 (fun _ _ => rfl) ?_
          simp only [Act.put, List.setIfInBounds_toArray, List.set_cons_succ, List.set_cons_zero]
          refine held_take 2 73 _ (.pointer (some ⟨G, 0, none⟩)) rfl rfl (by kernel_rfl) (by kernel_rfl) (by kernel_rfl) rfl hS4 (fun _ _ => rfl) ?_
          simp only [Act.put, List.setIfInBounds_toArray, List.set_cons_succ, List.set_cons_zero]
          refine held_take 3 74 _ (.pointer (some ⟨G, 2, none⟩)) rfl rfl (by kernel_rfl) (by kernel_rfl) (by kernel_rfl) rfl hS4 (fun _ _ => rfl) ?_
          simp only [Act.put, List.setIfInBounds_toArray, List.set_cons_succ, List.set_cons_zero]
          refine held_take 4 75 _ (.slice (some ⟨b, off, none⟩) t.wt.length cv) rfl rfl (by kernel_rfl) (by kernel_rfl) (by kernel_rfl) rfl hS4 (fun V hV => exec_loadc 41 _ rfl _ _ rfl (load_one 41 (fun _ => by kernel_rfl) V _ _ _ hV.1)) ?_
          simp only [Act.put, List.setIfInBounds_toArray, List.set_cons_succ, List.set_cons_zero]
          refine held_take 5 76 _ (.pointer (some ⟨G, 0, none⟩)) rfl rfl (by kernel_rfl) (by kernel_rfl) (by kernel_rfl) rfl hS4 (fun _ _ => rfl) ?_
          simp only [Act.put, List.setIfInBounds_toArray, List.set_cons_succ, List.set_cons_zero]
          refine held_take 6 77 _ (.pointer (some ⟨G, 0, none⟩)) rfl rfl (by kernel_rfl) (by kernel_rfl) (by kernel_rfl) rfl hS4 (fun _ _ => rfl) ?_
          simp only [Act.put, List.setIfInBounds_toArray, List.set_cons_succ, List.set_cons_zero]
          refine held_take 7 78 _ (.pointer (some ⟨G, 4, none⟩)) rfl rfl (by kernel_rfl) (by kernel_rfl) (by kernel_rfl) rfl hS4 (fun _ _ => rfl) ?_
          simp only [Act.put, List.setIfInBounds_toArray, List.set_cons_succ, List.set_cons_zero]
          refine held_take 8 79 _ (.int .i64 (K : Int)) rfl rfl (by kernel_rfl) (by kernel_rfl) (by kernel_rfl) rfl hS4 (fun V hV => exec_loadc 3 _ rfl _ _ rfl (load_one 3 (fun _ => by kernel_rfl) V _ _ _ hV.2.1)) ?_
          simp only [Act.put, List.setIfInBounds_toArray, List.set_cons_succ, List.set_cons_zero]
          refine held_take 9 80 _ (.pointer (some ⟨b, off + K, none⟩)) rfl rfl (by kernel_rfl) (by kernel_rfl) (by kernel_rfl) rfl hS4 (fun V _ => exec_indexat 41 _ _ rfl (.slice (some ⟨b, off, none⟩) t.wt.length cv) (.int .i64 (K : Int)) _ rfl rfl (HIX.out V)) ?_
          simp only [Act.put, List.setIfInBounds_toArray, List.set_cons_succ, List.set_cons_zero]
          refine held_take 10 81 _ (.slice a body.length cc) rfl rfl (by kernel_rfl) (by kernel_rfl) (by kernel_rfl) rfl hS4 (fun V hV => exec_loadc 32 _ rfl _ _ rfl (load_one 32 (fun _ => by kernel_rfl) V _ _ _ hV.2.2)) ?_
          simp only [Act.put, List.setIfInBounds_toArray, List.set_cons_succ, List.set_cons_zero]
          refine held_all1 0 (by kernel_rfl) (op_value 0 71 _ (.slice (some ⟨W4.drew.heap.size, 0, none⟩) 0 0) (W4.drew.alloc (.cells #[] 5)) rfl rfl rfl (exec_empty rfl) ⟨hS5, ?_⟩)
          simp only [Act.put, List.setIfInBounds_toArray, List.set_cons_succ, List.set_cons_zero]
          refine held_all1 11 (by kernel_rfl) (op_value 11 82 _ (.slice ab body.length cb) (W6) rfl rfl rfl (exec_app (.tmp 71) (.tmp 81) 32 32 rfl (.slice (some ⟨W4.drew.heap.size, 0, none⟩) 0 0) (.slice a body.length cc) (.slice ab body.length cb) rfl rfl happ) ⟨hS6, ?_⟩)
          simp only [Act.put, List.setIfInBounds_toArray, List.set_cons_succ, List.set_cons_zero]
          refine held_take 12 83 _ (.pointer (some ⟨P, 5, none⟩)) rfl rfl (by kernel_rfl) (by kernel_rfl) (by kernel_rfl) rfl hS6 (fun _ _ => rfl) ?_
          simp only [Act.put, List.setIfInBounds_toArray, List.set_cons_succ, List.set_cons_zero]
          refine held_all1 13 (by kernel_rfl) (op_skip 13 _ (W6.setCell ⟨P, 5, none⟩ (.slice ab body.length cb)) rfl rfl rfl (exec_stores _ _ rfl P 5 ab body.length cb _ rfl rfl (hkP6.cell (j := 5) rfl) (hkP6.frozen 5)) ⟨hS7, ?_⟩)
          refine wpAnyH_done (by kernel_rfl) ?_ _
          refine NoPanic.normal ?_
          clear hS4 hS5 hS6 hS7 hkP6 hO5 hO6 happ HSK HIX g24 g44 hcb hsb
          generalize W6.setCell ⟨P, 5, none⟩ (.slice ab body.length cb) = W7 at *
          have p0 : W7.cell? ⟨P, 0, none⟩ = some (.int .i64 3) := hkP7.cell (j := 0) rfl
          have p1 : W7.cell? ⟨P, 1, none⟩ = some (.int .i64 t.ep) := hkP7.cell (j := 1) rfl
          have p2 : W7.cell? ⟨P, 2, none⟩ = some (.int .i64 t.pe) := hkP7.cell (j := 2) rfl
          have p3 : W7.cell? ⟨P, 3, none⟩ = some (.int .i64 ((t.fi : Int) + (K : Int))) := hkP7.cell (j := 3) rfl
          have p4 : W7.cell? ⟨P, 4, none⟩ = some (.int .i64 ((t.ne : Int) - 1)) := hkP7.cell (j := 4) rfl
          have p5 : W7.cell? ⟨P, 5, none⟩ = some (.slice ab body.length cb) := hkP7.cell (j := 5) rfl
          have hbN := below_new W7 (.cells #[.int .i64 3, .int .i64 t.ep, .int .i64 t.pe, .int .i64 ((t.fi : Int) + (K : Int)), .int .i64 ((t.ne : Int) - 1), .slice ab body.length cb] 34)
          have hkN := Blk.new W7 34 #[.int .i64 3, .int .i64 t.ep, .int .i64 t.pe, .int .i64 ((t.fi : Int) + (K : Int)), .int .i64 ((t.ne : Int) - 1), .slice ab body.length cb]
          have hb8 := hbd7.trans (hbN.mono hbd7.size)
          have hP8 := hPq.after hb8
          have ho8 := hO7.below hbN (Nat.le_refl _)
          have hkG8 := hkG7.below hbN hkG7.lt
          have hpl := hPq.lt
          have hseg : SegA (W7.alloc (.cells #[.int .i64 3, .int .i64 t.ep, .int .i64 t.pe, .int .i64 ((t.fi : Int) + (K : Int)), .int .i64 ((t.ne : Int) - 1), .slice ab body.length cb] 34)) (fun q => T q ∨ (Value.slice ap (datasK t t.se j).length cp).ownBlock = some q) (.slice ab body.length cb) body := ho8.segK (fun q hq => by
            have e2 : W4.drew.heap.size = W4.heap.size := rfl
            have := hb4.size
            rcases hq with e | e
            · have := hwl q e; have := hCq.size; omega
            · have := (hpl q e).2; omega)
          have hw0 : w.heap.size ≤ W0.heap.size := by have := hCq.size; omega
          obtain ⟨v9, W9, r1, r2, r3, r4⟩ := hP8.app (fun q e => .inr e) ⟨W7.heap.size, 0, none⟩ 1 [dataK t K] [.slice ab body.length cb] rfl (fun i u hu => by
            rw [Addr.add_mid, Nat.zero_add]
            refine hkN.cell ?_
            rw [HDK.out] at hu
            simpa [cellsK, kpL] using hu) (fun i u p hu hp => by
            match i, hu, hp with
            | 0, hu, hp => cases hu; cases hp; rw [HDK.out]; exact hseg
            | (i + 1), hu, hp => simp at hu) (by rw [hlj.out]; show j + 1 ≤ _; have := HTOP.out; omega) (by have := hb8.size; omega)
          have hmore : datasK t t.se (j + 1) = datasK t t.se j ++ [dataK t K] := by rw [datasK_more, HKK.out]
          rw [← hmore] at r2
          obtain ⟨a9, c9, rfl⟩ := r2.shape
          have hb89 : Below w.heap.size (W7.alloc (.cells #[.int .i64 3, .int .i64 t.ep, .int .i64 t.pe, .int .i64 ((t.fi : Int) + (K : Int)), .int .i64 ((t.ne : Int) - 1), .slice ab body.length cb] 34)) W9 := (Chg.of_grown r3 (fun k e => e) : Chg (fun q => (Value.slice ap (datasK t t.se j).length cp).ownBlock = some q) _ W9).below (fun q e => (hpl q e).1) (by have := hb8.size; omega)
          have hkG9 := hkG8.below hb89 (by have := hwl G h1.tG; omega)
          have g49 : W9.cell? ⟨G, 4, none⟩ = some (.int .i64 (K : Int)) := hkG9.cell (j := 4) rfl
          have f49 := hkG9.frozen 4
          have hkG10 : Blk (W9.setCell ⟨G, 4, none⟩ (.int .i64 ((K : Int) + 1))) G 47 (rlinkC { t with se := t.se + (j + 1) } (.slice (some ⟨b, off, none⟩) t.wt.length cv)) := (hkG9.set 4 (.int .i64 ((K : Int) + 1))).of_eq (by have := HKK.out; unfold rlinkC; simp; omega)
          have hcg9 : Chg (fun q => w.heap.size ≤ q) W0 W9 := (Chg.of_below (S := fun q => w.heap.size ≤ q) hb8 (Nat.le_refl _)).trans (S' := fun q => w.heap.size ≤ q) (Chg.of_grown r3 (fun k e => (hpl k e).1)) (fun _ _ e => e)
          have hcG : Chg (fun q => q = G) W9 (W9.setCell ⟨G, 4, none⟩ (.int .i64 ((K : Int) + 1))) := (Chg.refl (fun q => q = G) W9).setCell G 4 _ (fun _ => rfl)
          have hC10 : Chg (fun q => q = G) w1 (W9.setCell ⟨G, 4, none⟩ (.int .i64 ((K : Int) + 1))) := (hCq.trans (S' := fun q => w.heap.size ≤ q) hcg9 (fun q hq e => by omega)).trans (S' := fun q => q = G) hcG (fun _ _ e => e)
          have hP10 : PksO (W9.setCell ⟨G, 4, none⟩ (.int .i64 ((K : Int) + 1))) (fun q => T q ∨ (Value.slice a9 (datasK t t.se (j + 1)).length c9).ownBlock = some q) w.heap.size (.slice a9 (datasK t t.se (j + 1)).length c9) (datasK t t.se (j + 1)) := by
            refine PksO.chg (r2.less (fun q hq => ?_)) hcG (fun q e => by rw [e]; exact .inl h1.tG) (fun q hq e => by have := (r2.lt q hq).1; have := hwl G h1.tG; omega)
            rcases hq with e | e
            · exact .inl (.inl e)
            · exact .inr e
          have hn9 : (datasK t t.se (j + 1)).length = j + 1 := datasK_len _ _ _
          have r1' : ∀ ty, (Builtin.append_ #[38, 38] ty #[.slice ap (datasK t t.se j).length cp, .slice (some ⟨W7.heap.size, 0, none⟩) 1 1]).run Try.prog (W7.alloc (.cells #[.int .i64 3, .int .i64 t.ep, .int .i64 t.pe, .int .i64 ((t.fi : Int) + (K : Int)), .int .i64 ((t.ne : Int) - 1), .slice ab body.length cb] 34)) = .ok (.slice a9 (datasK t t.se (j + 1)).length c9) W9 := r1
          have HP10 : Hid (PksO (W9.setCell ⟨G, 4, none⟩ (.int .i64 ((K : Int) + 1))) (fun q => T q ∨ (Value.slice a9 (datasK t t.se (j + 1)).length c9).ownBlock = some q) w.heap.size (.slice a9 (datasK t t.se (j + 1)).length c9) (datasK t t.se (j + 1))) := hP10
          have HJ1 : Hid (j + 1 ≤ topK t - t.se) := (by omega : j + 1 ≤ topK t - t.se)
          have HN9 : Hid ((datasK t t.se (j + 1)).length = j + 1) := hn9
          clear r1 r2 r3 r4 hP10 hn9 hb89 hcg9 hcG hkG9 hseg hw0 hpl hkG8 ho8 hP8 hb8 hkN hbN hmore hO7 hkP7 hkG7 hbd7 hP2 hPq hKq hb2 hB24 hb4
          generalize hnj : (datasK t t.se j).length = nj at r1' ⊢
          generalize hn10 : (datasK t t.se (j + 1)).length = nk at r1' HP10 HN9
          clear hnj hn10
          go_wp2_with (at_builtin; refine app_ranK _ W9 rfl (.tmp 84) (.tmp 86) 38 rfl _ _ _ rfl rfl r1' ?_)
          case roundEnd => exact ⟨⟨j + 1, HJ1.out, HP10.out, hkG10, hC10⟩, by have := hlj.out; have := HN9.out; have := HJ1.out; have := HTOP.out; simp only [lenV]; omega⟩
        · have hK4 : K = topK t := hK2 hlt
          have HE : Hid (j = topK t - t.se ∧ K = max t.se (topK t)) := ⟨by omega, by omega⟩
          have HEND : Hid (∀ V, Below wr.heap.size wr V → (∃ pv, Ending.returned (.slice ap (datasK t t.se j).length cp) = Ending.returned pv ∧ LR V T lo G (.slice av t.wt.length cv) (datasK t t.se (topK t - t.se), { t with se := max t.se (topK t) }).2 ∧ PksO V T w.heap.size pv (datasK t t.se (topK t - t.se), { t with se := max t.se (topK t) }).1 ∧ Chg (fun q => q = G) w V)) := by
            intro V hV
            obtain ⟨e1, e2⟩ := HE.out
            have hCV : Chg (fun q => q = G) w1 V := hC.trans (S' := fun q => q = G) (Chg.of_below hV (Nat.le_refl _)) (fun _ _ e => e)
            have hPf : PksO V T w.heap.size (.slice ap (datasK t t.se j).length cp) (datasK t t.se (topK t - t.se)) := by
              rw [← e1]
              exact (hP.less (fun q e => .inl e)).after hV
            refine ⟨_, rfl, ⟨?_, ?_, HFIN.out, h1.tG, h1.tv, fun q hq => ?_, h1.ge, h1.ne⟩, hPf, hC01.trans (S' := fun q => q = G) hCV (fun _ _ e => e)⟩
            · have := hK.below hV hK.lt
              rw [e2] at this
              exact this
            · exact h1.row.chg hCV (fun q e => by rw [e]; exact h1.tG) (fun q hq e => h1.ne (by rw [← e]; exact hq))
            · have := hwl q hq
              have := hCV.size
              omega
          by_cases hlen : K < t.wt.length
          · have i1 : decide ((K : Int) < (t.wt.length : Int)) = true := decide_eq_true (by omega)
            have i2 : decide ((K : Int) < 4) = false := decide_eq_false (by omega)
            have i3 : decide (K < t.wt.length) = true := decide_eq_true hlen
            clear hP hK hC hK4 htop hK1 hK2 hlt HFIN h1
            generalize hnj : (datasK t t.se j).length = nj at HEND ⊢
            clear hnj hlj HE
            go_wp2_with fail
            go_quiet (fail)
            go_wp2
            go_ret
            refine HEND.out _ ?_
            exact (Below.drewN (Below.refl _ _) _)
          · have i1 : decide ((K : Int) < (t.wt.length : Int)) = false := decide_eq_false (by omega)
            have i3 : decide (K < t.wt.length) = false := decide_eq_false hlen
            clear hP hK hC hK4 htop hK1 hK2 hlt HFIN h1
            generalize hnj : (datasK t t.se j).length = nj at HEND ⊢
            clear hnj hlj HE
            go_wp2_with fail
            go_quiet (fail)
            go_wp2
            go_ret
            refine HEND.out _ ?_
            exact (Below.drewN (Below.refl _ _) _)
end Go.Proofs.Ytichmnbhephkkaa
