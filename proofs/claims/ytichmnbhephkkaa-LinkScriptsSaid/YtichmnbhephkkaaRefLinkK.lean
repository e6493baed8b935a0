/-
  What is proved here: the document's Take takes a packet.
  Conditions: the link lies in memory as laws hold it; the packet's bytes lie apart from what is written.
-/
import Derived.Test.YtichmnbhephkkaaRefLink
import Derived.Test.YtichmnbhephkkaaLinkTake
import Derived.Test.YtichmnbhephkkaaRefLinkRight
import Derived.BigQuiet
import Derived.Deep.QuietTactic
namespace Go.Proofs.Ytichmnbhephkkaa
open Go.RowKit

/-- An operation that answers a value. -/
theorem ran_valueK (w w' : World) {ops : Array Oper} {rest : List Oper} {o : Oper} {a : Act} {Q : Exit → Act → World → Prop} (hgd : o.guard = none) (v : Value) (hrun : (execOp a.eval o).run Try.prog w = .ok (.value v) w') (h : wpList Try.prog ops Q rest (a.put o.dst v) w') : wpList Try.prog ops Q (o :: rest) a w := by
  refine wpList_plain hgd fun K hK => ?_
  unfold Oper.wp
  simp only [hrun]
  exact hK _ _ h
theorem LK.metR {W W1 : World} {T : Nat → Prop} {lo G : Nat} {v : Value} {s : KS} {p : Int} (h : LR W T lo G v s) (hp : p ≤ 1073741824) (hk : Blk W1 G 47 (rlinkC (meetK s p) v)) (hc : Chg (fun q => q = G) W W1) : LR W1 T lo G v (meetK s p) :=
  ⟨hk, by rw [meetK_wt]; exact h.row.chg hc (fun q e => by rw [e]; exact h.tG) (fun q hq e => h.ne (by rw [← e]; exact hq)), meetK_ok h.ok hp, h.tG, h.tv, fun q hq => Nat.lt_of_lt_of_le (h.lt q hq) hc.size, h.ge, h.ne⟩
/-- A packet alone is told. -/
theorem one_toldR {W W3 : World} {T : Nat → Prop} {lo G m : Nat} {v' : Value} {s : KS} (k : KP) (h : LR W T lo G v' s) (hb : Below W.heap.size W W3) (hm : m ≤ W.heap.size) (hkb : k.b = []) :
    LR (W3.alloc (.cells (kpL k (.slice none 0 0)).toArray 34)) T lo G v' s ∧ PksO (W3.alloc (.cells (kpL k (.slice none 0 0)).toArray 34)) T m (.slice (some ⟨W3.heap.size, 0, none⟩) 1 1) [k] ∧ Below W.heap.size W (W3.alloc (.cells (kpL k (.slice none 0 0)).toArray 34)) := by
  have h3 := h.after hb
  have hb4 := below_new W3 (.cells (kpL k (.slice none 0 0)).toArray 34)
  exact ⟨h3.after hb4, pks_one (lo := m) k (.slice none 0 0) (by rw [hkb]; exact segA_nil W3 T) h3.lt (Nat.le_trans hm hb.size), hb.trans (hb4.mono hb.size)⟩
/-- A link of which so many bodies were taken away. -/
def ackJ (s : KS) (j : Nat) : KS := ⟨s.ep, s.pe, s.fi + j, s.se - j, s.ne, if j = 0 then s.ti else 0, s.wt.drop j⟩
theorem ackJ_zero (s : KS) : ackJ s 0 = s := by unfold ackJ; simp
theorem ackJ_all (s : KS) (a : Int) : ackJ s (goneK s a) = ackedK s a := by
  unfold ackedK
  split
  · rename_i h
    rw [h, ackJ_zero]
  · rename_i h
    unfold ackJ
    rw [if_neg h]
theorem ackJ_ok {s : KS} (h : s.ok) {j : Nat} {a : Int} (ha : a ≤ 1073741824) (hj : j ≤ goneK s a) : (ackJ s j).ok := by
  by_cases h0 : j = 0
  · rw [h0, ackJ_zero]; exact h
  have h1 := goneK_le (s := s) a
  have h2 := goneK_fi (s := s) (a := a) (by omega)
  have hs := h.se
  have hf := h.fi
  have hw := h.wt
  generalize goneK s a = g at *
  refine ⟨h.ep, h.pe, ⟨by show 1 ≤ s.fi + j; omega, by show s.fi + j ≤ _; omega⟩, h.ne, ⟨by show s.se - j ≤ 4; omega, by show s.se - j ≤ (s.wt.drop j).length; rw [List.length_drop]; omega⟩, ?_, by show (s.wt.drop j).length ≤ 16; rw [List.length_drop]; omega, fun r hr => h.each r (List.mem_of_mem_drop hr)⟩
  show (if j = 0 then s.ti else 0) ≤ 2
  rw [if_neg h0]
  omega
def cellN (w : World) (a : Addr) : Nat := match w.cell? a with | some (.int _ n) => n.toNat | _ => 0
theorem cellN_of {w : World} {a : Addr} {n : Nat} (h : w.cell? a = some (.int .i64 (n : Int))) : cellN w a = n := by unfold cellN; rw [h]; simp
theorem RowsO.rest {w : World} {T : Nat → Prop} {lo : Nat} {a : Option Addr} {n c : Nat} {rs : List (List UInt8)} (h : RowsO w T lo (.slice a n c) rs) (h1 : 1 ≤ n) : RowsO w T lo (.slice (restK a c 1) (n - 1) (c - 1)) (rs.drop 1) ∧ (Value.slice (restK a c 1) (n - 1) (c - 1)).ownBlock = (Value.slice a n c).ownBlock := by
  obtain ⟨a', c', e⟩ := h.shape
  cases e
  obtain ⟨vs, h2, h3⟩ := h
  obtain ⟨h4, h5⟩ := h2.drop 1 h1 a c rfl
  refine ⟨⟨vs.drop 1, by rw [List.length_drop]; exact h4, fun i u r hu hr => ?_⟩, h5⟩
  rw [List.getElem?_drop] at hu hr
  exact h3 _ u r hu hr
set_option maxRecDepth 100000 in
set_option maxHeartbeats 8000000 in
theorem takeR_any (w : World) (T : Nat → Prop) (lo G : Nat) (v : Value) (s : KS) (p : KP) (ax : Option Addr) (cx : Nat) (h : LR w T lo G v s) (_hlo : lo ≤ w.heap.size) (hS : SegA w T (.slice ax p.b.length cx) p.b) :
    Calls Try.prog 16 #[.pointer (some ⟨G, 0, none⟩), kpV p (.slice ax p.b.length cx)] w fun e w' => ∃ v' rv pv, e = .returned (.tuple #[rv, pv]) ∧ LR w' T lo G v' (takeK s p).2.2 ∧ v'.ownBlock = v.ownBlock ∧ RowsO w' T w.heap.size rv (takeK s p).1 ∧ PksO w' T w.heap.size pv (takeK s p).2.1 ∧ Chg (LM G v) w w' := by
  obtain ⟨av, cv, rfl⟩ := h.row.shape
  have hbA := below_new w (.cells #[.int .i64 p.k, .int .i64 p.f, .int .i64 p.t, .int .i64 p.s, .int .i64 p.a, .slice ax p.b.length cx] 34)
  have kB := Blk.new w 34 #[.int .i64 p.k, .int .i64 p.f, .int .i64 p.t, .int .i64 p.s, .int .i64 p.a, .slice ax p.b.length cx]
  have hA := h.after hbA
  have hSA := hS.after hbA
  have hT := h.lt
  have HRT : Hid (∀ V, Calls Try.prog 35 #[.agg #[.int .i64 p.k, .int .i64 p.f, .int .i64 p.t, .int .i64 p.s, .int .i64 p.a, .slice ax p.b.length cx]] V fun e w' => e = .returned (.bool (rightK p)) ∧ Below V.heap.size V w') := fun V => rightR_any p ax cx V
  have HTK : Hid (takeK s p = if rightK p = false ∨ p.f < s.pe then ([], [], s) else if p.k = 1 then ([], [bareK (meetK s p.f) 2], meetK s p.f) else if p.k = 2 then ([], [], if p.t = s.ep then meetK s p.f else s) else dataTakeK s p) := rfl
  have HPR : Hid (rightK p = true → p.ok) := fun e => of_decide_eq_true e
  generalize takeK s p = TK at *
  have k0 : (w.alloc (.cells #[.int .i64 p.k, .int .i64 p.f, .int .i64 p.t, .int .i64 p.s, .int .i64 p.a, .slice ax p.b.length cx] 34)).cell? ⟨w.heap.size, 0, none⟩ = some (.int .i64 p.k) := kB.cell (j := 0) rfl
  have k1 : (w.alloc (.cells #[.int .i64 p.k, .int .i64 p.f, .int .i64 p.t, .int .i64 p.s, .int .i64 p.a, .slice ax p.b.length cx] 34)).cell? ⟨w.heap.size, 1, none⟩ = some (.int .i64 p.f) := kB.cell (j := 1) rfl
  have k2 : (w.alloc (.cells #[.int .i64 p.k, .int .i64 p.f, .int .i64 p.t, .int .i64 p.s, .int .i64 p.a, .slice ax p.b.length cx] 34)).cell? ⟨w.heap.size, 2, none⟩ = some (.int .i64 p.t) := kB.cell (j := 2) rfl
  have k3 : (w.alloc (.cells #[.int .i64 p.k, .int .i64 p.f, .int .i64 p.t, .int .i64 p.s, .int .i64 p.a, .slice ax p.b.length cx] 34)).cell? ⟨w.heap.size, 3, none⟩ = some (.int .i64 p.s) := kB.cell (j := 3) rfl
  have k4 : (w.alloc (.cells #[.int .i64 p.k, .int .i64 p.f, .int .i64 p.t, .int .i64 p.s, .int .i64 p.a, .slice ax p.b.length cx] 34)).cell? ⟨w.heap.size, 4, none⟩ = some (.int .i64 p.a) := kB.cell (j := 4) rfl
  have k5 : (w.alloc (.cells #[.int .i64 p.k, .int .i64 p.f, .int .i64 p.t, .int .i64 p.s, .int .i64 p.a, .slice ax p.b.length cx] 34)).cell? ⟨w.heap.size, 5, none⟩ = some (.slice ax p.b.length cx) := kB.cell (j := 5) rfl
  unfold kpV kpL
  go_enter Try.func16, Try.ntmps16
  go_wp2_with fail
  clear k0 k1 k2 k3 k4 k5
  refine (HRT.out _).mono ?_
  rintro e W1 ⟨rfl, hb1⟩
  obtain ⟨B, hB⟩ : ∃ B, B = w.heap.size := ⟨_, rfl⟩
  have hC1 : Chg (LM G (.slice av s.wt.length cv)) w W1 := Chg.of_below (hbA.trans (hb1.mono hbA.size)) (Nat.le_refl _)
  have hL1 := hA.after hb1
  have hS1 := hSA.after hb1
  have kB1 := kB.below hb1 kB.lt
  have hTB : ¬ T B := fun e => by have := hT B e; omega
  have hGB : G ≠ B := by have := h.head.lt; omega
  have hBw : w.heap.size ≤ B := by omega
  have HGW : Hid (G < w.heap.size) := h.head.lt
  rw [← hB] at kB1 ⊢
  clear hB hbA kB hA hSA hb1 HRT h hS hT
  have hsz1 : w.heap.size ≤ W1.heap.size := hC1.size
  obtain ⟨c0, c1, c2, c3, c4, c5, c6⟩ := rlinkC_cells hL1.head
  have b0 : W1.cell? ⟨B, 0, none⟩ = some (.int .i64 p.k) := kB1.cell (j := 0) rfl
  have b1 : W1.cell? ⟨B, 1, none⟩ = some (.int .i64 p.f) := kB1.cell (j := 1) rfl
  have b2 : W1.cell? ⟨B, 2, none⟩ = some (.int .i64 p.t) := kB1.cell (j := 2) rfl
  cases hr : rightK p with
  | false =>
    rw [hr] at HTK
    rw [if_pos (.inl rfl)] at HTK
    clear hr c2 c3 c4 c5 c6 b0 b2
    go_wp2_with fail
    go_quiet (fail)
    have hL2 := hL1.after (Below.drewN (Below.refl _ _) nq)
    have hC2 := hC1.trans (S' := fun _ => False) (Chg.of_below (Below.drewN (Below.refl W1.heap.size W1) nq) (Nat.le_refl _)) (fun _ _ e => e.elim)
    clear hL1 hC1 b1 c0 c1 kB1 hS1
    go_wp2
    go_ret2
    rw [HTK.out]
    exact ⟨_, _, _, rfl, hL2, rfl, RowsO.nil _ _ _, PksO.nil _ _ _, hC2⟩
  | true =>
    have hok : p.ok := HPR.out hr
    by_cases hlt : p.f < s.pe
    · rw [if_pos (.inr hlt)] at HTK
      have d2 : decide (p.f < s.pe) = true := decide_eq_true hlt
      clear hr hlt c0 c2 c3 c4 c5 c6 b0 b2
      go_wp2_with fail
      go_quiet (fail)
      have hL2 := hL1.after (Below.drewN (Below.refl _ _) nq)
      have hC2 := hC1.trans (S' := fun _ => False) (Chg.of_below (Below.drewN (Below.refl W1.heap.size W1) nq) (Nat.le_refl _)) (fun _ _ e => e.elim)
      clear hL1 hC1 b1 c1 kB1 hS1
      go_wp2
      go_ret2
      rw [HTK.out]
      exact ⟨_, _, _, rfl, hL2, rfl, RowsO.nil _ _ _, PksO.nil _ _ _, hC2⟩
    rw [if_neg (by rw [hr]; intro e; rcases e with e | e; cases e; exact hlt e)] at HTK
    have d2 : decide (p.f < s.pe) = false := decide_eq_false hlt
    have hpf : p.f ≤ 1073741824 := hok.2.2.1.2
    have hge : s.pe ≤ p.f := by omega
    clear hr hlt HPR
    go_wp2_with fail
    go_quiet (fail)
    have hL2 := hL1.after (Below.drewN (Below.refl _ _) nq)
    have hS2 := hS1.after (Below.drewN (Below.refl _ _) nq)
    have kB2 := kB1.drewN nq
    have hC2 := hC1.trans (S' := fun _ => False) (Chg.of_below (Below.drewN (Below.refl W1.heap.size W1) nq) (Nat.le_refl _)) (fun _ _ e => e.elim)
    have hsz2 : w.heap.size ≤ (W1.drewN nq).heap.size := hC2.size
    clear hL1 hS1 kB1 hC1 hsz1 c0 c1 c2 c3 c4 c5 c6 b0 b1 b2 d2
    generalize W1.drewN nq = W2 at *
    obtain ⟨c0, c1, c2, c3, c4, c5, c6⟩ := rlinkC_cells hL2.head
    have b0 : W2.cell? ⟨B, 0, none⟩ = some (.int .i64 p.k) := kB2.cell (j := 0) rfl
    have b1 : W2.cell? ⟨B, 1, none⟩ = some (.int .i64 p.f) := kB2.cell (j := 1) rfl
    have b2 : W2.cell? ⟨B, 2, none⟩ = some (.int .i64 p.t) := kB2.cell (j := 2) rfl
    have HAN : Hid (∀ V, Blk V G 47 (rlinkC s (.slice av s.wt.length cv)) → Calls Try.prog 36 #[.pointer (some ⟨G, 0, none⟩), .int .i64 p.f] V fun r w' => r = .returned (.tuple #[]) ∧ Blk w' G 47 (rlinkC ⟨s.ep, p.f, 1, 0, 1, 0, s.wt⟩ (.slice av s.wt.length cv)) ∧ Chg (fun q => q = G) V w') := fun V hV => anewR_any G s _ p.f V hV
    have HBR : Hid (∀ (k : Int) (t : KS) (u : Value) V, Blk V G 47 (rlinkC t u) → Calls Try.prog 29 #[.pointer (some ⟨G, 0, none⟩), .int .i64 k] V fun r w' => r = .returned (.agg #[.int .i64 k, .int .i64 t.ep, .int .i64 t.pe, .int .i64 0, .int .i64 0, .slice none 0 0]) ∧ Below V.heap.size V w') := fun k t u V hV => bareR_any G t u k V hV
    by_cases hk1 : p.k = 1
    · rw [if_pos hk1] at HTK
      rw [hk1] at b0
      by_cases hm : s.pe < p.f
      · have d3 : decide (s.pe < p.f) = true := decide_eq_true hm
        have hmt : meetK s p.f = ⟨s.ep, p.f, 1, 0, 1, 0, s.wt⟩ := if_pos hm
        clear hk1 hok hm hge c0 c2 c3 c4 c5 c6 b2 hS2 kB2
        go_wp2_with fail
        go_quiet (fail)
        have hL3 := hL2.after (Below.drewN (Below.refl _ _) nq)
        have hC3 := hC2.trans (S' := fun _ => False) (Chg.of_below (Below.drewN (Below.refl W2.heap.size W2) nq) (Nat.le_refl _)) (fun _ _ e => e.elim)
        have b1' : (W2.drewN nq).cell? ⟨B, 1, none⟩ = some (.int .i64 p.f) := b1
        clear hL2 hC2 b0 b1 c1 d3 hsz2
        generalize W2.drewN nq = W3 at *
        go_wp2_with fail
        refine (HAN.out W3 hL3.head).mono ?_
        rintro e W4 ⟨rfl, hk4, hc4⟩
        rw [← hmt] at hk4
        have hL4 := hL3.metR hpf hk4 hc4
        have hC4 := hC3.trans (S' := LM G (.slice av s.wt.length cv)) (hc4.weaken (fun q e => .inl e)) (fun _ _ e => e)
        have HMT : Hid (meetK s p.f = ⟨s.ep, p.f, 1, 0, 1, 0, s.wt⟩) := hmt
        clear hmt hL3 hC3 b1' HAN hc4
        go_wp2_with fail
        refine (HBR.out 2 _ _ W4 hk4).mono ?_
        rintro e W5 ⟨rfl, hb5⟩
        obtain ⟨hL6, hP6, hb6⟩ := one_toldR (m := w.heap.size) (bareK (meetK s p.f) 2) hL4 hb5 hC4.size rfl
        have hC6 := hC4.trans (S' := fun _ => False) (Chg.of_below hb6 (Nat.le_refl _)) (fun _ _ e => e.elim)
        clear HBR hL4 hC4 hk4 hb5 hb6
        go_wp2
        go_ret2
        rw [HTK.out]
        exact ⟨_, _, _, rfl, hL6, rfl, RowsO.nil _ _ _, hP6, hC6⟩
      · have d3 : decide (s.pe < p.f) = false := decide_eq_false hm
        have HMT : Hid (meetK s p.f = s) := if_neg hm
        clear hk1 hok hm hge c0 c2 c3 c4 c5 c6 b2 hS2 kB2 HAN
        go_wp2_with fail
        go_quiet (fail)
        have hL3 := hL2.after (Below.drewN (Below.refl _ _) nq)
        have hC3 := hC2.trans (S' := fun _ => False) (Chg.of_below (Below.drewN (Below.refl W2.heap.size W2) nq) (Nat.le_refl _)) (fun _ _ e => e.elim)
        clear hL2 hC2 b0 b1 c1 d3 hsz2
        generalize W2.drewN nq = W4 at *
        go_wp2_with fail
        refine (HBR.out 2 _ _ W4 hL3.head).mono ?_
        rintro e W5 ⟨rfl, hb5⟩
        obtain ⟨hL6, hP6, hb6⟩ := one_toldR (m := w.heap.size) (bareK s 2) hL3 hb5 hC3.size rfl
        have hC6 := hC3.trans (S' := fun _ => False) (Chg.of_below hb6 (Nat.le_refl _)) (fun _ _ e => e.elim)
        clear HBR hL3 hC3 hb5 hb6
        go_wp2
        go_ret2
        rw [HTK.out, HMT.out]
        exact ⟨_, _, _, rfl, hL6, rfl, RowsO.nil _ _ _, hP6, hC6⟩
    rw [if_neg hk1] at HTK
    have e1 : (p.k == 1) = false := beq_eq_false_iff_ne.2 hk1
    by_cases hk2 : p.k = 2
    · rw [if_pos hk2] at HTK
      have e2 : (p.k == 2) = true := beq_iff_eq.2 hk2
      clear hk1 hk2 hok hS2 kB2 HBR c2 c3 c4 c5 c6
      by_cases ht : p.t = s.ep
      · rw [if_pos ht] at HTK
        have e3 : (p.t == s.ep) = true := beq_iff_eq.2 ht
        clear ht
        by_cases hm : s.pe < p.f
        · have d3 : decide (s.pe < p.f) = true := decide_eq_true hm
          have hmt : meetK s p.f = ⟨s.ep, p.f, 1, 0, 1, 0, s.wt⟩ := if_pos hm
          clear hm hge
          go_wp2_with fail
          go_quiet (fail)
          have hL3 := hL2.after (Below.drewN (Below.refl _ _) nq)
          have hC3 := hC2.trans (S' := fun _ => False) (Chg.of_below (Below.drewN (Below.refl W2.heap.size W2) nq) (Nat.le_refl _)) (fun _ _ e => e.elim)
          have b1' : (W2.drewN nq).cell? ⟨B, 1, none⟩ = some (.int .i64 p.f) := b1
          clear hL2 hC2 b0 b1 b2 c0 c1 d3 e1 e2 e3 hsz2
          generalize W2.drewN nq = W3 at *
          go_wp2_with fail
          refine (HAN.out W3 hL3.head).mono ?_
          rintro e W4 ⟨rfl, hk4, hc4⟩
          rw [← hmt] at hk4
          have hL4 := hL3.metR hpf hk4 hc4
          have hC4 := hC3.trans (S' := LM G (.slice av s.wt.length cv)) (hc4.weaken (fun q e => .inl e)) (fun _ _ e => e)
          clear hmt hL3 hC3 b1' HAN hc4 hk4
          go_wp2
          go_ret2
          rw [HTK.out]
          exact ⟨_, _, _, rfl, hL4, rfl, RowsO.nil _ _ _, PksO.nil _ _ _, hC4⟩
        · have d3 : decide (s.pe < p.f) = false := decide_eq_false hm
          have HMT : Hid (meetK s p.f = s) := if_neg hm
          clear hm hge HAN
          go_wp2_with fail
          go_quiet (fail)
          have hL3 := hL2.after (Below.drewN (Below.refl _ _) nq)
          have hC3 := hC2.trans (S' := fun _ => False) (Chg.of_below (Below.drewN (Below.refl W2.heap.size W2) nq) (Nat.le_refl _)) (fun _ _ e => e.elim)
          clear hL2 hC2 b0 b1 b2 c0 c1 d3 e1 e2 e3 hsz2
          go_wp2
          go_ret2
          rw [HTK.out, HMT.out]
          exact ⟨_, _, _, rfl, hL3, rfl, RowsO.nil _ _ _, PksO.nil _ _ _, hC3⟩
      · rw [if_neg ht] at HTK
        have e3 : (p.t == s.ep) = false := beq_eq_false_iff_ne.2 ht
        clear ht hge HAN
        go_wp2_with fail
        go_quiet (fail)
        have hL3 := hL2.after (Below.drewN (Below.refl _ _) nq)
        have hC3 := hC2.trans (S' := fun _ => False) (Chg.of_below (Below.drewN (Below.refl W2.heap.size W2) nq) (Nat.le_refl _)) (fun _ _ e => e.elim)
        clear hL2 hC2 b0 b1 b2 c0 c1 e1 e2 e3 hsz2
        go_wp2
        go_ret2
        rw [HTK.out]
        exact ⟨_, _, _, rfl, hL3, rfl, RowsO.nil _ _ _, PksO.nil _ _ _, hC3⟩
    rw [if_neg hk2] at HTK
    have e2 : (p.k == 2) = false := beq_eq_false_iff_ne.2 hk2
    clear hk1 hk2 HAN
    have HDT : Hid (dataTakeK s p = if p.t ≠ s.ep ∨ p.f ≠ s.pe then ([], [bareK s 1], s) else bringK (ackedK s p.a) p) := rfl
    by_cases hn : p.t ≠ s.ep ∨ p.f ≠ s.pe
    · rw [if_pos hn] at HDT
      cases d4 : (p.t != s.ep) with
      | true =>
        clear hn hok hge hS2 kB2 c2 c3 c4 c5 c6 hpf
        go_wp2_with fail
        go_quiet (fail)
        have hL3 := hL2.after (Below.drewN (Below.refl _ _) nq)
        have hC3 := hC2.trans (S' := fun _ => False) (Chg.of_below (Below.drewN (Below.refl W2.heap.size W2) nq) (Nat.le_refl _)) (fun _ _ e => e.elim)
        clear hL2 hC2 b0 b1 b2 c0 c1 e1 e2 hsz2
        generalize W2.drewN nq = W4 at *
        go_wp2_with fail
        refine (HBR.out 1 _ _ W4 hL3.head).mono ?_
        rintro e W5 ⟨rfl, hb5⟩
        obtain ⟨hL6, hP6, hb6⟩ := one_toldR (m := w.heap.size) (bareK s 1) hL3 hb5 hC3.size rfl
        have hC6 := hC3.trans (S' := fun _ => False) (Chg.of_below hb6 (Nat.le_refl _)) (fun _ _ e => e.elim)
        clear HBR hL3 hC3 hb5 hb6
        go_wp2
        go_ret2
        rw [HTK.out, HDT.out]
        exact ⟨_, _, _, rfl, hL6, rfl, RowsO.nil _ _ _, hP6, hC6⟩
      | false =>
        have d5 : decide (s.pe < p.f) = true := by
          rcases hn with e | e
          · exact absurd (by simpa using d4) e
          · exact decide_eq_true (by omega)
        clear hn hok hge hS2 kB2 c2 c3 c4 c5 c6 hpf
        go_wp2_with fail
        go_quiet (fail)
        have hL3 := hL2.after (Below.drewN (Below.refl _ _) nq)
        have hC3 := hC2.trans (S' := fun _ => False) (Chg.of_below (Below.drewN (Below.refl W2.heap.size W2) nq) (Nat.le_refl _)) (fun _ _ e => e.elim)
        clear hL2 hC2 b0 b1 b2 c0 c1 e1 e2 hsz2
        generalize W2.drewN nq = W4 at *
        go_wp2_with fail
        refine (HBR.out 1 _ _ W4 hL3.head).mono ?_
        rintro e W5 ⟨rfl, hb5⟩
        obtain ⟨hL6, hP6, hb6⟩ := one_toldR (m := w.heap.size) (bareK s 1) hL3 hb5 hC3.size rfl
        have hC6 := hC3.trans (S' := fun _ => False) (Chg.of_below hb6 (Nat.le_refl _)) (fun _ _ e => e.elim)
        clear HBR hL3 hC3 hb5 hb6
        go_wp2
        go_ret2
        rw [HTK.out, HDT.out]
        exact ⟨_, _, _, rfl, hL6, rfl, RowsO.nil _ _ _, hP6, hC6⟩
    rw [if_neg hn] at HDT
    have hn1 : p.t = s.ep := Decidable.byContradiction fun e => hn (.inl e)
    have hn2 : p.f = s.pe := Decidable.byContradiction fun e => hn (.inr e)
    have d4 : (p.t != s.ep) = false := by rw [hn1]; simp
    have d5 : decide (s.pe < p.f) = false := decide_eq_false (by omega)
    have hpa : p.a ≤ 1073741824 := hok.2.2.2.2.2.1.2
    have hps : p.s ≤ 1073741824 := hok.2.2.2.2.1.2
    have hpb : p.b.length ≤ 1500 := hok.2.1
    clear hn hn1 hn2 hok hge hpf
    go_wp2_with fail
    go_quiet (fail)
    have hL3 := hL2.after (Below.drewN (Below.refl _ _) nq)
    have hS3 := hS2.after (Below.drewN (Below.refl _ _) nq)
    have kB3 := kB2.drewN nq
    have hC3 := hC2.trans (S' := fun _ => False) (Chg.of_below (Below.drewN (Below.refl W2.heap.size W2) nq) (Nat.le_refl _)) (fun _ _ e => e.elim)
    clear hL2 hS2 kB2 hC2 hsz2 c0 c1 c2 c3 c4 c5 c6 b0 b1 b2 e1 e2 d4 d5
    generalize W2.drewN nq = W3 at *
    have c3 : W3.cell? ⟨G, 3, none⟩ = some (.int .i64 (s.fi : Int)) := hL3.head.cell (j := 3) rfl
    have c4 : W3.cell? ⟨G, 4, none⟩ = some (.int .i64 (s.se : Int)) := hL3.head.cell (j := 4) rfl
    have b4 : W3.cell? ⟨B, 4, none⟩ = some (.int .i64 p.a) := kB3.cell (j := 4) rfl
    have hfi := hL3.ok.fi.2
    have hse := hL3.ok.se.1
    by_cases hc : p.a < (s.fi : Int) + (s.se : Int)
    · have d6 : decide (p.a < (s.fi : Int) + (s.se : Int)) = true := decide_eq_true hc
      go_wp2_with fail
      go_quiet (fail)
      have hL4 := hL3.after (Below.drewN (Below.refl _ _) nq)
      have hS4 := hS3.after (Below.drewN (Below.refl _ _) nq)
      have kB4 := kB3.drewN nq
      have hC4 := hC3.trans (S' := fun _ => False) (Chg.of_below (Below.drewN (Below.refl W3.heap.size W3) nq) (Nat.le_refl _)) (fun _ _ e => e.elim)
      clear hL3 hS3 kB3 hC3 c3 c4 b4 d6
      generalize W3.drewN nq = W4 at *
      have HGN : Hid (∀ j : Nat, j ≤ goneK s p.a → (((s.fi + j : Nat) : Int) ≤ p.a → j + 1 ≤ goneK s p.a ∧ j + 1 ≤ s.se) ∧ (¬ ((s.fi + j : Nat) : Int) ≤ p.a → j = goneK s p.a)) := by
        intro j hj
        unfold goneK at hj ⊢
        split at hj
        · rename_i h0
          rw [if_pos h0]
          omega
        · rename_i h0
          rw [if_neg h0]
          omega
      have HOK : Hid (∀ j : Nat, j ≤ goneK s p.a → (ackJ s j).ok) := fun j hj => ackJ_ok hL4.ok hpa hj
      have HSUB : Hid (∀ q, LM G (.slice av s.wt.length cv) q → T q) := fun q e => hL4.sub q e
      have hG4 : G < W4.heap.size := hL4.head.lt
      clear hc
      go_wp2_with fail
      go_loopw [] (fun wr => ∃ (j : Nat) (vj : Value), j ≤ goneK s p.a ∧ vj.ownBlock = (Value.slice av s.wt.length cv).ownBlock ∧ LR wr T lo G vj (ackJ s j) ∧ Chg (LM G (.slice av s.wt.length cv)) W4 wr) (fun wr => cellN wr ⟨G, 4, none⟩)
      case atStart => exact ⟨0, _, Nat.zero_le _, rfl, by rw [ackJ_zero]; exact hL4, Chg.refl _ _⟩
      case round =>
        obtain ⟨j, vj, hj, hvj, hLj, hCj⟩ := hrel
        have kBj := kB4.chg hCj (fun e => hTB (HSUB.out B e))
        obtain ⟨aj, cj, rfl⟩ := hLj.row.shape
        obtain ⟨F, hF⟩ : ∃ F, F = s.fi + j := ⟨_, rfl⟩
        obtain ⟨S, hSe⟩ : ∃ S, S = s.se - j := ⟨_, rfl⟩
        obtain ⟨N, hN⟩ : ∃ N, N = (ackJ s j).wt.length := ⟨_, rfl⟩
        have hse2 : S ≤ N := by have := hLj.ok.se.2; rw [hN, hSe]; exact this
        rw [← hN] at hvj hLj
        have c2 : wr.cell? ⟨G, 2, none⟩ = some (.slice aj N cj) := hLj.head.cell (j := 2) rfl
        have c3 : wr.cell? ⟨G, 3, none⟩ = some (.int .i64 (F : Int)) := by rw [hF]; exact hLj.head.cell (j := 3) rfl
        have c4 : wr.cell? ⟨G, 4, none⟩ = some (.int .i64 (S : Int)) := by rw [hSe]; exact hLj.head.cell (j := 4) rfl
        have b4 : wr.cell? ⟨B, 4, none⟩ = some (.int .i64 p.a) := kBj.cell (j := 4) rfl
        have HME : Hid (cellN wr ⟨G, 4, none⟩ = S) := cellN_of c4
        have hF1 : F ≤ 1073741825 := by have := hLj.ok.fi.2; rw [hF]; exact this
        have hS1 : S ≤ 4 := by have := hLj.ok.se.1; rw [hSe]; exact this
        have HFS : Hid (F = s.fi + j ∧ S = s.se - j) := ⟨hF, hSe⟩
        by_cases hle : (F : Int) ≤ p.a
        · have i1 : decide ((F : Int) ≤ p.a) = true := decide_eq_true hle
          obtain ⟨hj1, hj2⟩ := (HGN.out j hj).1 (by rw [← hF]; exact hle)
          have hS0 : 1 ≤ S := by omega
          have HJ1 : Hid (j + 1 ≤ goneK s p.a) := hj1
          clear hle hF hSe hj1 hj2 hN
          go_wp2_with fail
          go_quiet (fail)
          have hL5 := hLj.after (Below.drewN (Below.refl _ _) nq)
          have hC5 := hCj.trans (S' := fun _ => False) (Chg.of_below (Below.drewN (Below.refl wr.heap.size wr) nq) (Nat.le_refl _)) (fun _ _ e => e.elim)
          clear hLj hCj kBj c2 c3 c4 b4 i1
          generalize wr.drewN nq = W5 at *
          have k5 := hL5.head
          obtain ⟨hr5, hv5⟩ := hL5.row.rest (by omega)
          have HSL : ∀ V, (Instr.slice 41 (.slice aj N cj) (some (.int .i64 1)) none none).run Try.prog V = .ok (.slice (restK aj cj 1) (N - 1) (cj - 1)) V := fun V => slice_restK aj N cj 1 (by omega) V
          obtain ⟨v6, hv6⟩ : ∃ v6, v6 = Value.slice (restK aj cj 1) (N - 1) (cj - 1) := ⟨_, rfl⟩
          rw [← hv6] at hr5 hv5
          have c2 : W5.cell? ⟨G, 2, none⟩ = some (.slice aj N cj) := k5.cell (j := 2) rfl
          have f2 := k5.frozen 2
          have k6 := k5.set 2 (.slice (restK aj cj 1) (N - 1) (cj - 1))
          have c3 : (W5.setCell ⟨G, 2, none⟩ (.slice (restK aj cj 1) (N - 1) (cj - 1))).cell? ⟨G, 3, none⟩ = some (.int .i64 (F : Int)) := by have := HFS.out.1; rw [this]; exact k6.cell (j := 3) rfl
          have f3 := k6.frozen 3
          have k7 := k6.set 3 (.int .i64 ((F : Int) + 1))
          have c4 : ((W5.setCell ⟨G, 2, none⟩ (.slice (restK aj cj 1) (N - 1) (cj - 1))).setCell ⟨G, 3, none⟩ (.int .i64 ((F : Int) + 1))).cell? ⟨G, 4, none⟩ = some (.int .i64 (S : Int)) := by have := HFS.out.2; rw [this]; exact k7.cell (j := 4) rfl
          have f4 := k7.frozen 4
          have k8 := k7.set 4 (.int .i64 ((S : Int) - 1))
          have c6 : (((W5.setCell ⟨G, 2, none⟩ (.slice (restK aj cj 1) (N - 1) (cj - 1))).setCell ⟨G, 3, none⟩ (.int .i64 ((F : Int) + 1))).setCell ⟨G, 4, none⟩ (.int .i64 ((S : Int) - 1))).cell? ⟨G, 6, none⟩ = some (.int .i64 ((ackJ s j).ti : Int)) := k8.cell (j := 6) rfl
          have f6 := k8.frozen 6
          have k9 := k8.set 6 (.int .i64 0)
          have hc9 : Chg (fun q => q = G) W5 ((((W5.setCell ⟨G, 2, none⟩ (.slice (restK aj cj 1) (N - 1) (cj - 1))).setCell ⟨G, 3, none⟩ (.int .i64 ((F : Int) + 1))).setCell ⟨G, 4, none⟩ (.int .i64 ((S : Int) - 1))).setCell ⟨G, 6, none⟩ (.int .i64 0)) := ((((Chg.refl (fun q => q = G) W5).setCell G 2 _ (fun _ => rfl)).setCell G 3 _ (fun _ => rfl)).setCell G 4 _ (fun _ => rfl)).setCell G 6 _ (fun _ => rfl)
          have hk9 : Blk ((((W5.setCell ⟨G, 2, none⟩ (.slice (restK aj cj 1) (N - 1) (cj - 1))).setCell ⟨G, 3, none⟩ (.int .i64 ((F : Int) + 1))).setCell ⟨G, 4, none⟩ (.int .i64 ((S : Int) - 1))).setCell ⟨G, 6, none⟩ (.int .i64 0)) G 47 (rlinkC (ackJ s (j + 1)) v6) := k9.of_eq (by
            rw [hv6]
            have e1 := HFS.out.1
            have e2 := HFS.out.2
            unfold rlinkC ackJ
            simp
            omega)
          have hL9 : LR ((((W5.setCell ⟨G, 2, none⟩ (.slice (restK aj cj 1) (N - 1) (cj - 1))).setCell ⟨G, 3, none⟩ (.int .i64 ((F : Int) + 1))).setCell ⟨G, 4, none⟩ (.int .i64 ((S : Int) - 1))).setCell ⟨G, 6, none⟩ (.int .i64 0)) T lo G v6 (ackJ s (j + 1)) := ⟨hk9, by
            have := hr5.chg hc9 (fun q e => by rw [e]; exact hL5.tG) (fun q hq e => hL5.ne (by rw [← e, ← hv5]; exact hq))
            have e1 : (ackJ s j).wt.drop 1 = (ackJ s (j + 1)).wt := by unfold ackJ; simp
            rw [← e1]
            exact this, HOK.out _ HJ1.out, hL5.tG, fun q hq => hL5.tv q (by rw [← hv5]; exact hq), fun q hq => Nat.lt_of_lt_of_le (hL5.lt q hq) hc9.size, hL5.ge, by rw [hv5]; exact hL5.ne⟩
          have hC9 := hC5.trans (S' := LM G (.slice av s.wt.length cv)) (hc9.weaken (fun q e => .inl e)) (fun _ _ e => e)
          have HM9 : Hid (cellN ((((W5.setCell ⟨G, 2, none⟩ (.slice (restK aj cj 1) (N - 1) (cj - 1))).setCell ⟨G, 3, none⟩ (.int .i64 ((F : Int) + 1))).setCell ⟨G, 4, none⟩ (.int .i64 ((S : Int) - 1))).setCell ⟨G, 6, none⟩ (.int .i64 0)) ⟨G, 4, none⟩ = s.se - (j + 1)) := cellN_of (hk9.cell (j := 4) rfl)
          have HV6 : Hid (v6.ownBlock = (Value.slice av s.wt.length cv).ownBlock) := hv5.trans hvj
          clear k5 k6 k7 k8 k9 hc9 hk9 hr5 hv5 hL5 hC5 hv6
          go_wp2_with (refine ran_valueK _ _ rfl (.slice (restK aj cj 1) (N - 1) (cj - 1)) (exec_sliceK _ _ _ _ rfl (.slice aj N cj) _ (some (.int .i64 1)) none none rfl rfl rfl rfl (HSL _)) ?_)
          case roundEnd => exact ⟨⟨j + 1, v6, HJ1.out, HV6.out, hL9, hC9⟩, by rw [HM9.out, HME.out]; have := HFS.out.2; omega⟩
        · have i1 : decide ((F : Int) ≤ p.a) = false := decide_eq_false hle
          have hjg := (HGN.out j hj).2 (by omega)
          clear hle hF hSe hN
          go_wp2_with fail
          go_quiet (fail)
          have hL5 := hLj.after (Below.drewN (Below.refl _ _) nq)
          rw [hjg, ackJ_all] at hL5
          have hC5 := (hC4.trans (S' := LM G (.slice av s.wt.length cv)) hCj (fun _ _ e => e)).trans (S' := fun _ => False) (Chg.of_below (Below.drewN (Below.refl wr.heap.size wr) nq) (Nat.le_refl _)) (fun _ _ e => e.elim)
          have hS5 := (hS4.chgs hCj (fun q e => HSUB.out q e)).after (Below.drewN (Below.refl _ _) nq)
          have kB5 := kBj.drewN nq
          obtain ⟨v2, hv2e⟩ : ∃ v2, v2 = Value.slice aj N cj := ⟨_, rfl⟩
          have hv2 := hvj
          rw [← hv2e] at hL5 hv2
          clear hv2e hvj hL4 hS4 kB4 hC4 hLj hCj kBj c2 c3 c4 b4 i1 hj hjg HGN HOK HSUB HFS HME hfi hse hse2 hF1 hS1 hG4 hpa
          generalize wr.drewN nq = W5 at *
          obtain ⟨t, ht⟩ : ∃ t, t = ackedK s p.a := ⟨_, rfl⟩
          rw [← ht] at hL5 HDT
          clear ht
          have b3 : W5.cell? ⟨B, 3, none⟩ = some (.int .i64 p.s) := kB5.cell (j := 3) rfl
          by_cases hs0 : p.s = 0
          · have HBQ : Hid (bringK t p = ([], [], t)) := by
              show _ = _
              unfold bringK
              rw [if_pos hs0]
            rw [hs0] at b3
            clear hs0 kB5 hS5 hps hpb HBR
            go_wp2
            go_ret2
            rw [HTK.out, HDT.out, HBQ.out]
            exact ⟨_, _, _, rfl, hL5, hv2, RowsO.nil _ _ _, PksO.nil _ _ _, hC5⟩
          have d7 : (p.s == 0) = false := beq_eq_false_iff_ne.2 hs0
          have c5 : W5.cell? ⟨G, 5, none⟩ = some (.int .i64 (t.ne : Int)) := hL5.head.cell (j := 5) rfl
          by_cases hsn : p.s = (t.ne : Int)
          · have HBQ : Hid (bringK t p = ([p.b], [ackK { t with ne := t.ne + 1 }], { t with ne := t.ne + 1 })) := by
              show _ = _
              unfold bringK
              rw [if_neg hs0, if_pos hsn]
            have hok6 : ({ t with ne := t.ne + 1 } : KS).ok := by
              have := bringK_ok hL5.ok (p := p) hps
              rw [HBQ.out] at this
              exact this
            have d8 : (p.s == (t.ne : Int)) = true := beq_iff_eq.2 hsn
            have hne : t.ne ≤ 1073741824 := by omega
            clear hs0 hsn hps
            go_wp2_with fail
            go_quiet (fail)
            have hL6 := hL5.after (Below.drewN (Below.refl _ _) nq)
            have hS6 := hS5.after (Below.drewN (Below.refl _ _) nq)
            have kB6 := kB5.drewN nq
            have hC6 := hC5.trans (S' := fun _ => False) (Chg.of_below (Below.drewN (Below.refl W5.heap.size W5) nq) (Nat.le_refl _)) (fun _ _ e => e.elim)
            clear hL5 hS5 kB5 hC5 b3 c5 d7 d8
            generalize W5.drewN nq = W6 at *
            have hsz6 : w.heap.size ≤ W6.heap.size := hC6.size
            have b5 : (W6.alloc (.cells #[] 5)).cell? ⟨B, 5, none⟩ = some (.slice ax p.b.length cx) := (kB6.below (below_new W6 _) kB6.lt).cell (j := 5) rfl
            obtain ⟨v7, W7, happ1, hO7, hg7, -⟩ := app_bytes _ W6.heap.size _ [] (own_emptyD W6 W6.heap.size _ rfl (Nat.le_refl _)) (.slice ax p.b.length cx) p.b (hS6.1.alloc _) (by simp only [List.length_nil]; omega) (by simp)
            rw [List.nil_append] at hO7
            obtain ⟨ab, cb, rfl⟩ := hO7.seg.shapeD
            have hB7 : Below W6.heap.size W6 W7 := ((Below.refl W6.heap.size W6).alloc (Nat.le_refl _) _).grown hg7 (by simp) (fun q hq => by cases hq; exact Nat.le_refl _)
            have hL7 := hL6.after hB7
            have hb8 := below_new W7 (.cells #[.slice ab p.b.length cb] 32)
            have hL8 := hL7.after hb8
            have hseg7 : SegA W7 T (.slice ab p.b.length cb) p.b := hO7.segK (fun q hq => hL6.lt q hq)
            have hk8 := Blk.new W7 32 #[.slice ab p.b.length cb]
            have hsz7 := hB7.size
            obtain ⟨rv, W9, happ2, hr8, hg8, hv8⟩ := (RowsO.nil (W7.alloc (.cells #[.slice ab p.b.length cb] 32)) T w.heap.size).app (fun q e => by cases e) ⟨W7.heap.size, 0, none⟩ 1 [.slice ab p.b.length cb] [p.b] rfl (fun j u hu => by
              match j, hu with
              | 0, hu => cases hu; exact hk8.cell (j := 0) rfl
              | (j + 1), hu => simp at hu) (fun i u r hu hr => by
              match i, hu, hr with
              | 0, hu, hr => cases hu; cases hr; exact hseg7.after hb8
              | (i + 1), hu, hr => simp at hu) (by simp) (by simp; omega)
            have hb9 : Below (W7.alloc (.cells #[.slice ab p.b.length cb] 32)).heap.size (W7.alloc (.cells #[.slice ab p.b.length cb] 32)) W9 := below_grown (Below.refl _ _) hg8 (Nat.le_refl _) (fun k e => by cases e)
            have hL9 := hL8.after hb9
            have hr9 : RowsO W9 T w.heap.size rv [p.b] := hr8.grow (fun q e => .inl (.inl e))
            have hC9 : Chg (LM G (.slice av s.wt.length cv)) w W9 := ((hC6.trans (S' := fun _ => False) (Chg.of_below hB7 (Nat.le_refl _)) (fun _ _ e => e.elim)).trans (S' := fun _ => False) (Chg.of_below hb8 (Nat.le_refl _)) (fun _ _ e => e.elim)).trans (S' := fun _ => False) (Chg.of_below hb9 (Nat.le_refl _)) (fun _ _ e => e.elim)
            have hrv := hr9.lt
            obtain ⟨ar, cr, rfl⟩ := hr9.shape
            have x5 : W9.cell? ⟨G, 5, none⟩ = some (.int .i64 (t.ne : Int)) := hL9.head.cell (j := 5) rfl
            have z5 := hL9.head.frozen 5
            have hcG : Chg (fun q => q = G) W9 (W9.setCell ⟨G, 5, none⟩ (.int .i64 ((t.ne : Int) + 1))) := (Chg.refl (fun q => q = G) W9).setCell G 5 _ (fun _ => rfl)
            have hL10 : LR (W9.setCell ⟨G, 5, none⟩ (.int .i64 ((t.ne : Int) + 1))) T lo G v2 { t with ne := t.ne + 1 } := ⟨(hL9.head.set 5 _).of_eq (by unfold rlinkC; simp), hL9.row.chg hcG (fun q e => by rw [e]; exact hL9.tG) (fun q hq e => hL9.ne (by rw [← e]; exact hq)), hok6, hL9.tG, hL9.tv, fun q hq => Nat.lt_of_lt_of_le (hL9.lt q hq) hcG.size, hL9.ge, hL9.ne⟩
            have hr10 := hr9.chg hcG (fun q e => by rw [e]; exact hL9.tG) (fun q hq e => by have := (hrv q hq).1; have := HGW.out; omega)
            have hC10 : Chg (LM G (.slice av s.wt.length cv)) w (W9.setCell ⟨G, 5, none⟩ (.int .i64 ((t.ne : Int) + 1))) := hC9.trans (S' := LM G (.slice av s.wt.length cv)) (hcG.weaken (fun q e => .inl e)) (fun _ _ e => e)
            clear hL6 hL7 hL8 hL9 hS6 kB6 hC6 hC9 hO7 hg7 hB7 hb8 hb9 hk8 hseg7 hr8 hr9 hg8 hv8 hcG hrv hok6
            go_wp2_with (first | (at_builtin; refine app_ranK _ W7 rfl (.tmp 136) (.tmp 138) 32 rfl _ _ _ rfl rfl happ1 ?_) | (at_builtin; refine app_ranK _ W9 rfl (.tmp 135) (.tmp 140) 41 rfl (.slice none 0 0) _ _ rfl rfl happ2 ?_))
            obtain ⟨t', ht'⟩ : ∃ t' : KS, t' = { t with ne := t.ne + 1 } := ⟨_, rfl⟩
            rw [← ht'] at hL10 HBQ
            clear ht' x5 z5 happ1 happ2 hne b5
            generalize W9.setCell ⟨G, 5, none⟩ (.int .i64 ((t.ne : Int) + 1)) = W10 at *
            have hne' : t'.ne ≤ 1073741825 := hL10.ok.ne.2
            have hpos : 1 ≤ t'.ne := hL10.ok.ne.1
            refine (HBR.out 3 _ _ W10 hL10.head).mono ?_
            rintro e W11 ⟨rfl, hb11⟩
            obtain ⟨P, hPd⟩ : ∃ P, P = W11.heap.size := ⟨_, rfl⟩
            have hkP := Blk.new W11 34 #[.int .i64 3, .int .i64 t'.ep, .int .i64 t'.pe, .int .i64 0, .int .i64 0, .slice none 0 0]
            have hb12 : Below W10.heap.size W10 (W11.alloc (.cells #[.int .i64 3, .int .i64 t'.ep, .int .i64 t'.pe, .int .i64 0, .int .i64 0, .slice none 0 0] 34)) := hb11.trans ((below_new W11 _).mono hb11.size)
            have hL12 := hL10.after hb12
            have g5 : (W11.alloc (.cells #[.int .i64 3, .int .i64 t'.ep, .int .i64 t'.pe, .int .i64 0, .int .i64 0, .slice none 0 0] 34)).cell? ⟨G, 5, none⟩ = some (.int .i64 (t'.ne : Int)) := hL12.head.cell (j := 5) rfl
            have p4 : (W11.alloc (.cells #[.int .i64 3, .int .i64 t'.ep, .int .i64 t'.pe, .int .i64 0, .int .i64 0, .slice none 0 0] 34)).cell? ⟨W11.heap.size, 4, none⟩ = some (.int .i64 0) := hkP.cell (j := 4) rfl
            have f4 := hkP.frozen 4
            have hPl : W10.heap.size ≤ W11.heap.size := hb11.size
            have hkP13 := Blk.new W11 34 #[.int .i64 3, .int .i64 t'.ep, .int .i64 t'.pe, .int .i64 0, .int .i64 ((t'.ne : Int) - 1), .slice none 0 0]
            have hb13 : Below W10.heap.size W10 (W11.alloc (.cells #[.int .i64 3, .int .i64 t'.ep, .int .i64 t'.pe, .int .i64 0, .int .i64 ((t'.ne : Int) - 1), .slice none 0 0] 34)) := hb11.trans ((below_new W11 _).mono hb11.size)
            clear HBR hkP hb12 hL12 hb11
            go_wp2_with fail
            rw [← hPd] at hkP13 ⊢
            clear g5 p4 f4 hPd hPl hne' hpos
            generalize W11.alloc (.cells #[.int .i64 3, .int .i64 t'.ep, .int .i64 t'.pe, .int .i64 0, .int .i64 ((t'.ne : Int) - 1), .slice none 0 0] 34) = W13 at *
            obtain ⟨hL15, hP15, hb15⟩ := one_toldR (m := w.heap.size) (ackK t') hL10 hb13.drew hC10.size rfl
            have hr15 := hr10.after hb15
            have hC15 := hC10.trans (S' := fun _ => False) (Chg.of_below hb15 (Nat.le_refl _)) (fun _ _ e => e.elim)
            have hS13 : W13.drew.rangeAt P 0 [.int .i64 3, .int .i64 t'.ep, .int .i64 t'.pe, .int .i64 0, .int .i64 ((t'.ne : Int) - 1), .slice none 0 0] := hkP13.drew.rangeK
            have hS14 : (W13.drew.alloc (.cells #[.int .i64 3, .int .i64 t'.ep, .int .i64 t'.pe, .int .i64 0, .int .i64 ((t'.ne : Int) - 1), .slice none 0 0] 34)).rangeAt P 0 [.int .i64 3, .int .i64 t'.ep, .int .i64 t'.pe, .int .i64 0, .int .i64 ((t'.ne : Int) - 1), .slice none 0 0] := (hkP13.drew.below (below_new W13.drew _) hkP13.drew.lt).rangeK
            refine held_begin (fun V => V.rangeAt P 0 [.int .i64 3, .int .i64 t'.ep, .int .i64 t'.pe, .int .i64 0, .int .i64 ((t'.ne : Int) - 1), .slice none 0 0]) (by kernel_rfl) ?_
            refine held_take 0 157 _ (.slice ar 1 cr) rfl rfl (by kernel_rfl) (by kernel_rfl) (by kernel_rfl) rfl hS13 (fun _ _ => rfl) ?_
            simp only [Act.put, List.setIfInBounds_toArray, List.set_cons_succ, List.set_cons_zero]
            refine held_take 1 158 _ (.agg #[.int .i64 3, .int .i64 t'.ep, .int .i64 t'.pe, .int .i64 0, .int .i64 ((t'.ne : Int) - 1), .slice none 0 0]) rfl rfl (by kernel_rfl) (by kernel_rfl) (by kernel_rfl) rfl hS13 (fun V hV => exec_load 34 _ rfl P 0 rfl [.int .i64 3, .int .i64 t'.ep, .int .i64 t'.pe, .int .i64 0, .int .i64 ((t'.ne : Int) - 1), .slice none 0 0] _ hV Try.underlying34 rfl info_packet) ?_
            simp only [Act.put, List.setIfInBounds_toArray, List.set_cons_succ, List.set_cons_zero]
            refine held_all2 2 3 (by kernel_rfl) ?_ ?_
            · refine op_value 2 159 _ (.slice (some ⟨W13.drew.heap.size, 0, none⟩) 1 1) (W13.drew.alloc (.cells #[.int .i64 3, .int .i64 t'.ep, .int .i64 t'.pe, .int .i64 0, .int .i64 ((t'.ne : Int) - 1), .slice none 0 0] 34)) rfl rfl rfl (exec_pktK _ rfl _ _ _ _ _ _ _ _ rfl) ⟨hS14, ?_⟩
              simp only [Act.put, List.setIfInBounds_toArray, List.set_cons_succ, List.set_cons_zero]
              refine held_all1 3 (by kernel_rfl) (op_value 3 4 _ (.slice ar 1 cr) (W13.drew.alloc (.cells #[.int .i64 3, .int .i64 t'.ep, .int .i64 t'.pe, .int .i64 0, .int .i64 ((t'.ne : Int) - 1), .slice none 0 0] 34)) rfl rfl rfl (rfl) ⟨hS14, ?_⟩)
              simp only [Act.put, List.setIfInBounds_toArray, List.set_cons_succ, List.set_cons_zero]
              refine held_all1 4 (by kernel_rfl) (op_value 4 5 _ (.slice (some ⟨W13.drew.heap.size, 0, none⟩) 1 1) (W13.drew.alloc (.cells #[.int .i64 3, .int .i64 t'.ep, .int .i64 t'.pe, .int .i64 0, .int .i64 ((t'.ne : Int) - 1), .slice none 0 0] 34)) rfl rfl rfl (rfl) ⟨hS14, ?_⟩)
              simp only [Act.put, List.setIfInBounds_toArray, List.set_cons_succ, List.set_cons_zero]
              refine wpAnyH_done (by kernel_rfl) ?_ _
              refine NoPanic.normal ?_
              go_wp2
              go_ret2
              rw [HTK.out, HDT.out, HBQ.out]
              exact ⟨_, _, _, rfl, hL15, hv2, hr15, hP15, hC15⟩
            · refine op_value 3 4 _ (.slice ar 1 cr) (W13.drew) rfl rfl rfl (rfl) ⟨hS13, ?_⟩
              simp only [Act.put, List.setIfInBounds_toArray, List.set_cons_succ, List.set_cons_zero]
              refine held_all1 2 (by kernel_rfl) (op_value 2 159 _ (.slice (some ⟨W13.drew.heap.size, 0, none⟩) 1 1) (W13.drew.alloc (.cells #[.int .i64 3, .int .i64 t'.ep, .int .i64 t'.pe, .int .i64 0, .int .i64 ((t'.ne : Int) - 1), .slice none 0 0] 34)) rfl rfl rfl (exec_pktK _ rfl _ _ _ _ _ _ _ _ rfl) ⟨hS14, ?_⟩)
              simp only [Act.put, List.setIfInBounds_toArray, List.set_cons_succ, List.set_cons_zero]
              refine held_all1 4 (by kernel_rfl) (op_value 4 5 _ (.slice (some ⟨W13.drew.heap.size, 0, none⟩) 1 1) (W13.drew.alloc (.cells #[.int .i64 3, .int .i64 t'.ep, .int .i64 t'.pe, .int .i64 0, .int .i64 ((t'.ne : Int) - 1), .slice none 0 0] 34)) rfl rfl rfl (rfl) ⟨hS14, ?_⟩)
              simp only [Act.put, List.setIfInBounds_toArray, List.set_cons_succ, List.set_cons_zero]
              refine wpAnyH_done (by kernel_rfl) ?_ _
              refine NoPanic.normal ?_
              go_wp2
              go_ret2
              rw [HTK.out, HDT.out, HBQ.out]
              exact ⟨_, _, _, rfl, hL15, hv2, hr15, hP15, hC15⟩
          have HBQ : Hid (bringK t p = ([], [ackK t], t)) := by
            show _ = _
            unfold bringK
            rw [if_neg hs0, if_neg hsn]
          have d8 : (p.s == (t.ne : Int)) = false := beq_eq_false_iff_ne.2 hsn
          clear hs0 hsn hps
          go_wp2_with fail
          go_quiet (fail)
          have hL10 := hL5.after (Below.drewN (Below.refl _ _) nq)
          have hC10 := hC5.trans (S' := fun _ => False) (Chg.of_below (Below.drewN (Below.refl W5.heap.size W5) nq) (Nat.le_refl _)) (fun _ _ e => e.elim)
          clear hL5 hS5 kB5 hC5 b3 c5 d7 d8
          generalize W5.drewN nq = W10 at *
          go_wp2_with fail
          have hr10 : RowsO W10 T w.heap.size (.slice none 0 0) [] := RowsO.nil _ _ _
          have hne' : t.ne ≤ 1073741825 := hL10.ok.ne.2
          have hpos : 1 ≤ t.ne := hL10.ok.ne.1
          refine (HBR.out 3 _ _ W10 hL10.head).mono ?_
          rintro e W11 ⟨rfl, hb11⟩
          obtain ⟨P, hPd⟩ : ∃ P, P = W11.heap.size := ⟨_, rfl⟩
          have hkP := Blk.new W11 34 #[.int .i64 3, .int .i64 t.ep, .int .i64 t.pe, .int .i64 0, .int .i64 0, .slice none 0 0]
          have hb12 : Below W10.heap.size W10 (W11.alloc (.cells #[.int .i64 3, .int .i64 t.ep, .int .i64 t.pe, .int .i64 0, .int .i64 0, .slice none 0 0] 34)) := hb11.trans ((below_new W11 _).mono hb11.size)
          have hL12 := hL10.after hb12
          have g5 : (W11.alloc (.cells #[.int .i64 3, .int .i64 t.ep, .int .i64 t.pe, .int .i64 0, .int .i64 0, .slice none 0 0] 34)).cell? ⟨G, 5, none⟩ = some (.int .i64 (t.ne : Int)) := hL12.head.cell (j := 5) rfl
          have p4 : (W11.alloc (.cells #[.int .i64 3, .int .i64 t.ep, .int .i64 t.pe, .int .i64 0, .int .i64 0, .slice none 0 0] 34)).cell? ⟨W11.heap.size, 4, none⟩ = some (.int .i64 0) := hkP.cell (j := 4) rfl
          have f4 := hkP.frozen 4
          have hPl : W10.heap.size ≤ W11.heap.size := hb11.size
          have hkP13 := Blk.new W11 34 #[.int .i64 3, .int .i64 t.ep, .int .i64 t.pe, .int .i64 0, .int .i64 ((t.ne : Int) - 1), .slice none 0 0]
          have hb13 : Below W10.heap.size W10 (W11.alloc (.cells #[.int .i64 3, .int .i64 t.ep, .int .i64 t.pe, .int .i64 0, .int .i64 ((t.ne : Int) - 1), .slice none 0 0] 34)) := hb11.trans ((below_new W11 _).mono hb11.size)
          clear HBR hkP hb12 hL12 hb11
          go_wp2_with fail
          rw [← hPd] at hkP13 ⊢
          clear g5 p4 f4 hPd hPl hne' hpos
          generalize W11.alloc (.cells #[.int .i64 3, .int .i64 t.ep, .int .i64 t.pe, .int .i64 0, .int .i64 ((t.ne : Int) - 1), .slice none 0 0] 34) = W13 at *
          obtain ⟨hL15, hP15, hb15⟩ := one_toldR (m := w.heap.size) (ackK t) hL10 hb13.drew hC10.size rfl
          have hr15 := hr10.after hb15
          have hC15 := hC10.trans (S' := fun _ => False) (Chg.of_below hb15 (Nat.le_refl _)) (fun _ _ e => e.elim)
          have hS13 : W13.drew.rangeAt P 0 [.int .i64 3, .int .i64 t.ep, .int .i64 t.pe, .int .i64 0, .int .i64 ((t.ne : Int) - 1), .slice none 0 0] := hkP13.drew.rangeK
          have hS14 : (W13.drew.alloc (.cells #[.int .i64 3, .int .i64 t.ep, .int .i64 t.pe, .int .i64 0, .int .i64 ((t.ne : Int) - 1), .slice none 0 0] 34)).rangeAt P 0 [.int .i64 3, .int .i64 t.ep, .int .i64 t.pe, .int .i64 0, .int .i64 ((t.ne : Int) - 1), .slice none 0 0] := (hkP13.drew.below (below_new W13.drew _) hkP13.drew.lt).rangeK
          refine held_begin (fun V => V.rangeAt P 0 [.int .i64 3, .int .i64 t.ep, .int .i64 t.pe, .int .i64 0, .int .i64 ((t.ne : Int) - 1), .slice none 0 0]) (by kernel_rfl) ?_
          refine held_take 0 157 _ (.slice none 0 0) rfl rfl (by kernel_rfl) (by kernel_rfl) (by kernel_rfl) rfl hS13 (fun _ _ => rfl) ?_
          simp only [Act.put, List.setIfInBounds_toArray, List.set_cons_succ, List.set_cons_zero]
          refine held_take 1 158 _ (.agg #[.int .i64 3, .int .i64 t.ep, .int .i64 t.pe, .int .i64 0, .int .i64 ((t.ne : Int) - 1), .slice none 0 0]) rfl rfl (by kernel_rfl) (by kernel_rfl) (by kernel_rfl) rfl hS13 (fun V hV => exec_load 34 _ rfl P 0 rfl [.int .i64 3, .int .i64 t.ep, .int .i64 t.pe, .int .i64 0, .int .i64 ((t.ne : Int) - 1), .slice none 0 0] _ hV Try.underlying34 rfl info_packet) ?_
          simp only [Act.put, List.setIfInBounds_toArray, List.set_cons_succ, List.set_cons_zero]
          refine held_all2 2 3 (by kernel_rfl) ?_ ?_
          · refine op_value 2 159 _ (.slice (some ⟨W13.drew.heap.size, 0, none⟩) 1 1) (W13.drew.alloc (.cells #[.int .i64 3, .int .i64 t.ep, .int .i64 t.pe, .int .i64 0, .int .i64 ((t.ne : Int) - 1), .slice none 0 0] 34)) rfl rfl rfl (exec_pktK _ rfl _ _ _ _ _ _ _ _ rfl) ⟨hS14, ?_⟩
            simp only [Act.put, List.setIfInBounds_toArray, List.set_cons_succ, List.set_cons_zero]
            refine held_all1 3 (by kernel_rfl) (op_value 3 4 _ (.slice none 0 0) (W13.drew.alloc (.cells #[.int .i64 3, .int .i64 t.ep, .int .i64 t.pe, .int .i64 0, .int .i64 ((t.ne : Int) - 1), .slice none 0 0] 34)) rfl rfl rfl (rfl) ⟨hS14, ?_⟩)
            simp only [Act.put, List.setIfInBounds_toArray, List.set_cons_succ, List.set_cons_zero]
            refine held_all1 4 (by kernel_rfl) (op_value 4 5 _ (.slice (some ⟨W13.drew.heap.size, 0, none⟩) 1 1) (W13.drew.alloc (.cells #[.int .i64 3, .int .i64 t.ep, .int .i64 t.pe, .int .i64 0, .int .i64 ((t.ne : Int) - 1), .slice none 0 0] 34)) rfl rfl rfl (rfl) ⟨hS14, ?_⟩)
            simp only [Act.put, List.setIfInBounds_toArray, List.set_cons_succ, List.set_cons_zero]
            refine wpAnyH_done (by kernel_rfl) ?_ _
            refine NoPanic.normal ?_
            go_wp2
            go_ret2
            rw [HTK.out, HDT.out, HBQ.out]
            exact ⟨_, _, _, rfl, hL15, hv2, hr15, hP15, hC15⟩
          · refine op_value 3 4 _ (.slice none 0 0) (W13.drew) rfl rfl rfl (rfl) ⟨hS13, ?_⟩
            simp only [Act.put, List.setIfInBounds_toArray, List.set_cons_succ, List.set_cons_zero]
            refine held_all1 2 (by kernel_rfl) (op_value 2 159 _ (.slice (some ⟨W13.drew.heap.size, 0, none⟩) 1 1) (W13.drew.alloc (.cells #[.int .i64 3, .int .i64 t.ep, .int .i64 t.pe, .int .i64 0, .int .i64 ((t.ne : Int) - 1), .slice none 0 0] 34)) rfl rfl rfl (exec_pktK _ rfl _ _ _ _ _ _ _ _ rfl) ⟨hS14, ?_⟩)
            simp only [Act.put, List.setIfInBounds_toArray, List.set_cons_succ, List.set_cons_zero]
            refine held_all1 4 (by kernel_rfl) (op_value 4 5 _ (.slice (some ⟨W13.drew.heap.size, 0, none⟩) 1 1) (W13.drew.alloc (.cells #[.int .i64 3, .int .i64 t.ep, .int .i64 t.pe, .int .i64 0, .int .i64 ((t.ne : Int) - 1), .slice none 0 0] 34)) rfl rfl rfl (rfl) ⟨hS14, ?_⟩)
            simp only [Act.put, List.setIfInBounds_toArray, List.set_cons_succ, List.set_cons_zero]
            refine wpAnyH_done (by kernel_rfl) ?_ _
            refine NoPanic.normal ?_
            go_wp2
            go_ret2
            rw [HTK.out, HDT.out, HBQ.out]
            exact ⟨_, _, _, rfl, hL15, hv2, hr15, hP15, hC15⟩
    · have d6 : decide (p.a < (s.fi : Int) + (s.se : Int)) = false := decide_eq_false hc
      have hg0 : goneK s p.a = 0 := by unfold goneK; rw [if_pos (.inr (by omega))]
      go_wp2_with fail
      go_quiet (fail)
      have hL5 := hL3.after (Below.drewN (Below.refl _ _) nq)
      have hS5 := hS3.after (Below.drewN (Below.refl _ _) nq)
      have kB5 := kB3.drewN nq
      have hC5 := hC3.trans (S' := fun _ => False) (Chg.of_below (Below.drewN (Below.refl W3.heap.size W3) nq) (Nat.le_refl _)) (fun _ _ e => e.elim)
      obtain ⟨v2, hv2e⟩ : ∃ v2, v2 = Value.slice av s.wt.length cv := ⟨_, rfl⟩
      have hv2 : v2.ownBlock = (Value.slice av s.wt.length cv).ownBlock := by rw [hv2e]
      rw [← hv2e] at hL5
      have e0 : ackedK s p.a = s := by rw [← ackJ_all, hg0, ackJ_zero]
      have hL5' : LR (W3.drewN nq) T lo G v2 (ackedK s p.a) := by rw [e0]; exact hL5
      replace hL5 := hL5'
      clear hL5' e0 hv2e hL3 hS3 kB3 hC3 c3 c4 b4 d6 hc hg0 hfi hse hpa
      generalize W3.drewN nq = W5 at *
      obtain ⟨t, ht⟩ : ∃ t, t = ackedK s p.a := ⟨_, rfl⟩
      rw [← ht] at hL5 HDT
      clear ht
      have b3 : W5.cell? ⟨B, 3, none⟩ = some (.int .i64 p.s) := kB5.cell (j := 3) rfl
      by_cases hs0 : p.s = 0
      · have HBQ : Hid (bringK t p = ([], [], t)) := by
          show _ = _
          unfold bringK
          rw [if_pos hs0]
        rw [hs0] at b3
        clear hs0 kB5 hS5 hps hpb HBR
        go_wp2
        go_ret2
        rw [HTK.out, HDT.out, HBQ.out]
        exact ⟨_, _, _, rfl, hL5, hv2, RowsO.nil _ _ _, PksO.nil _ _ _, hC5⟩
      have d7 : (p.s == 0) = false := beq_eq_false_iff_ne.2 hs0
      have c5 : W5.cell? ⟨G, 5, none⟩ = some (.int .i64 (t.ne : Int)) := hL5.head.cell (j := 5) rfl
      by_cases hsn : p.s = (t.ne : Int)
      · have HBQ : Hid (bringK t p = ([p.b], [ackK { t with ne := t.ne + 1 }], { t with ne := t.ne + 1 })) := by
          show _ = _
          unfold bringK
          rw [if_neg hs0, if_pos hsn]
        have hok6 : ({ t with ne := t.ne + 1 } : KS).ok := by
          have := bringK_ok hL5.ok (p := p) hps
          rw [HBQ.out] at this
          exact this
        have d8 : (p.s == (t.ne : Int)) = true := beq_iff_eq.2 hsn
        have hne : t.ne ≤ 1073741824 := by omega
        clear hs0 hsn hps
        go_wp2_with fail
        go_quiet (fail)
        have hL6 := hL5.after (Below.drewN (Below.refl _ _) nq)
        have hS6 := hS5.after (Below.drewN (Below.refl _ _) nq)
        have kB6 := kB5.drewN nq
        have hC6 := hC5.trans (S' := fun _ => False) (Chg.of_below (Below.drewN (Below.refl W5.heap.size W5) nq) (Nat.le_refl _)) (fun _ _ e => e.elim)
        clear hL5 hS5 kB5 hC5 b3 c5 d7 d8
        generalize W5.drewN nq = W6 at *
        have hsz6 : w.heap.size ≤ W6.heap.size := hC6.size
        have b5 : (W6.alloc (.cells #[] 5)).cell? ⟨B, 5, none⟩ = some (.slice ax p.b.length cx) := (kB6.below (below_new W6 _) kB6.lt).cell (j := 5) rfl
        obtain ⟨v7, W7, happ1, hO7, hg7, -⟩ := app_bytes _ W6.heap.size _ [] (own_emptyD W6 W6.heap.size _ rfl (Nat.le_refl _)) (.slice ax p.b.length cx) p.b (hS6.1.alloc _) (by simp only [List.length_nil]; omega) (by simp)
        rw [List.nil_append] at hO7
        obtain ⟨ab, cb, rfl⟩ := hO7.seg.shapeD
        have hB7 : Below W6.heap.size W6 W7 := ((Below.refl W6.heap.size W6).alloc (Nat.le_refl _) _).grown hg7 (by simp) (fun q hq => by cases hq; exact Nat.le_refl _)
        have hL7 := hL6.after hB7
        have hb8 := below_new W7 (.cells #[.slice ab p.b.length cb] 32)
        have hL8 := hL7.after hb8
        have hseg7 : SegA W7 T (.slice ab p.b.length cb) p.b := hO7.segK (fun q hq => hL6.lt q hq)
        have hk8 := Blk.new W7 32 #[.slice ab p.b.length cb]
        have hsz7 := hB7.size
        obtain ⟨rv, W9, happ2, hr8, hg8, hv8⟩ := (RowsO.nil (W7.alloc (.cells #[.slice ab p.b.length cb] 32)) T w.heap.size).app (fun q e => by cases e) ⟨W7.heap.size, 0, none⟩ 1 [.slice ab p.b.length cb] [p.b] rfl (fun j u hu => by
          match j, hu with
          | 0, hu => cases hu; exact hk8.cell (j := 0) rfl
          | (j + 1), hu => simp at hu) (fun i u r hu hr => by
          match i, hu, hr with
          | 0, hu, hr => cases hu; cases hr; exact hseg7.after hb8
          | (i + 1), hu, hr => simp at hu) (by simp) (by simp; omega)
        have hb9 : Below (W7.alloc (.cells #[.slice ab p.b.length cb] 32)).heap.size (W7.alloc (.cells #[.slice ab p.b.length cb] 32)) W9 := below_grown (Below.refl _ _) hg8 (Nat.le_refl _) (fun k e => by cases e)
        have hL9 := hL8.after hb9
        have hr9 : RowsO W9 T w.heap.size rv [p.b] := hr8.grow (fun q e => .inl (.inl e))
        have hC9 : Chg (LM G (.slice av s.wt.length cv)) w W9 := ((hC6.trans (S' := fun _ => False) (Chg.of_below hB7 (Nat.le_refl _)) (fun _ _ e => e.elim)).trans (S' := fun _ => False) (Chg.of_below hb8 (Nat.le_refl _)) (fun _ _ e => e.elim)).trans (S' := fun _ => False) (Chg.of_below hb9 (Nat.le_refl _)) (fun _ _ e => e.elim)
        have hrv := hr9.lt
        obtain ⟨ar, cr, rfl⟩ := hr9.shape
        have x5 : W9.cell? ⟨G, 5, none⟩ = some (.int .i64 (t.ne : Int)) := hL9.head.cell (j := 5) rfl
        have z5 := hL9.head.frozen 5
        have hcG : Chg (fun q => q = G) W9 (W9.setCell ⟨G, 5, none⟩ (.int .i64 ((t.ne : Int) + 1))) := (Chg.refl (fun q => q = G) W9).setCell G 5 _ (fun _ => rfl)
        have hL10 : LR (W9.setCell ⟨G, 5, none⟩ (.int .i64 ((t.ne : Int) + 1))) T lo G v2 { t with ne := t.ne + 1 } := ⟨(hL9.head.set 5 _).of_eq (by unfold rlinkC; simp), hL9.row.chg hcG (fun q e => by rw [e]; exact hL9.tG) (fun q hq e => hL9.ne (by rw [← e]; exact hq)), hok6, hL9.tG, hL9.tv, fun q hq => Nat.lt_of_lt_of_le (hL9.lt q hq) hcG.size, hL9.ge, hL9.ne⟩
        have hr10 := hr9.chg hcG (fun q e => by rw [e]; exact hL9.tG) (fun q hq e => by have := (hrv q hq).1; have := HGW.out; omega)
        have hC10 : Chg (LM G (.slice av s.wt.length cv)) w (W9.setCell ⟨G, 5, none⟩ (.int .i64 ((t.ne : Int) + 1))) := hC9.trans (S' := LM G (.slice av s.wt.length cv)) (hcG.weaken (fun q e => .inl e)) (fun _ _ e => e)
        clear hL6 hL7 hL8 hL9 hS6 kB6 hC6 hC9 hO7 hg7 hB7 hb8 hb9 hk8 hseg7 hr8 hr9 hg8 hv8 hcG hrv hok6
        go_wp2_with (first | (at_builtin; refine app_ranK _ W7 rfl (.tmp 136) (.tmp 138) 32 rfl _ _ _ rfl rfl happ1 ?_) | (at_builtin; refine app_ranK _ W9 rfl (.tmp 135) (.tmp 140) 41 rfl (.slice none 0 0) _ _ rfl rfl happ2 ?_))
        obtain ⟨t', ht'⟩ : ∃ t' : KS, t' = { t with ne := t.ne + 1 } := ⟨_, rfl⟩
        rw [← ht'] at hL10 HBQ
        clear ht' x5 z5 happ1 happ2 hne b5
        generalize W9.setCell ⟨G, 5, none⟩ (.int .i64 ((t.ne : Int) + 1)) = W10 at *
        have hne' : t'.ne ≤ 1073741825 := hL10.ok.ne.2
        have hpos : 1 ≤ t'.ne := hL10.ok.ne.1
        refine (HBR.out 3 _ _ W10 hL10.head).mono ?_
        rintro e W11 ⟨rfl, hb11⟩
        obtain ⟨P, hPd⟩ : ∃ P, P = W11.heap.size := ⟨_, rfl⟩
        have hkP := Blk.new W11 34 #[.int .i64 3, .int .i64 t'.ep, .int .i64 t'.pe, .int .i64 0, .int .i64 0, .slice none 0 0]
        have hb12 : Below W10.heap.size W10 (W11.alloc (.cells #[.int .i64 3, .int .i64 t'.ep, .int .i64 t'.pe, .int .i64 0, .int .i64 0, .slice none 0 0] 34)) := hb11.trans ((below_new W11 _).mono hb11.size)
        have hL12 := hL10.after hb12
        have g5 : (W11.alloc (.cells #[.int .i64 3, .int .i64 t'.ep, .int .i64 t'.pe, .int .i64 0, .int .i64 0, .slice none 0 0] 34)).cell? ⟨G, 5, none⟩ = some (.int .i64 (t'.ne : Int)) := hL12.head.cell (j := 5) rfl
        have p4 : (W11.alloc (.cells #[.int .i64 3, .int .i64 t'.ep, .int .i64 t'.pe, .int .i64 0, .int .i64 0, .slice none 0 0] 34)).cell? ⟨W11.heap.size, 4, none⟩ = some (.int .i64 0) := hkP.cell (j := 4) rfl
        have f4 := hkP.frozen 4
        have hPl : W10.heap.size ≤ W11.heap.size := hb11.size
        have hkP13 := Blk.new W11 34 #[.int .i64 3, .int .i64 t'.ep, .int .i64 t'.pe, .int .i64 0, .int .i64 ((t'.ne : Int) - 1), .slice none 0 0]
        have hb13 : Below W10.heap.size W10 (W11.alloc (.cells #[.int .i64 3, .int .i64 t'.ep, .int .i64 t'.pe, .int .i64 0, .int .i64 ((t'.ne : Int) - 1), .slice none 0 0] 34)) := hb11.trans ((below_new W11 _).mono hb11.size)
        clear HBR hkP hb12 hL12 hb11
        go_wp2_with fail
        rw [← hPd] at hkP13 ⊢
        clear g5 p4 f4 hPd hPl hne' hpos
        generalize W11.alloc (.cells #[.int .i64 3, .int .i64 t'.ep, .int .i64 t'.pe, .int .i64 0, .int .i64 ((t'.ne : Int) - 1), .slice none 0 0] 34) = W13 at *
        obtain ⟨hL15, hP15, hb15⟩ := one_toldR (m := w.heap.size) (ackK t') hL10 hb13.drew hC10.size rfl
        have hr15 := hr10.after hb15
        have hC15 := hC10.trans (S' := fun _ => False) (Chg.of_below hb15 (Nat.le_refl _)) (fun _ _ e => e.elim)
        have hS13 : W13.drew.rangeAt P 0 [.int .i64 3, .int .i64 t'.ep, .int .i64 t'.pe, .int .i64 0, .int .i64 ((t'.ne : Int) - 1), .slice none 0 0] := hkP13.drew.rangeK
        have hS14 : (W13.drew.alloc (.cells #[.int .i64 3, .int .i64 t'.ep, .int .i64 t'.pe, .int .i64 0, .int .i64 ((t'.ne : Int) - 1), .slice none 0 0] 34)).rangeAt P 0 [.int .i64 3, .int .i64 t'.ep, .int .i64 t'.pe, .int .i64 0, .int .i64 ((t'.ne : Int) - 1), .slice none 0 0] := (hkP13.drew.below (below_new W13.drew _) hkP13.drew.lt).rangeK
        refine held_begin (fun V => V.rangeAt P 0 [.int .i64 3, .int .i64 t'.ep, .int .i64 t'.pe, .int .i64 0, .int .i64 ((t'.ne : Int) - 1), .slice none 0 0]) (by kernel_rfl) ?_
        refine held_take 0 157 _ (.slice ar 1 cr) rfl rfl (by kernel_rfl) (by kernel_rfl) (by kernel_rfl) rfl hS13 (fun _ _ => rfl) ?_
        simp only [Act.put, List.setIfInBounds_toArray, List.set_cons_succ, List.set_cons_zero]
        refine held_take 1 158 _ (.agg #[.int .i64 3, .int .i64 t'.ep, .int .i64 t'.pe, .int .i64 0, .int .i64 ((t'.ne : Int) - 1), .slice none 0 0]) rfl rfl (by kernel_rfl) (by kernel_rfl) (by kernel_rfl) rfl hS13 (fun V hV => exec_load 34 _ rfl P 0 rfl [.int .i64 3, .int .i64 t'.ep, .int .i64 t'.pe, .int .i64 0, .int .i64 ((t'.ne : Int) - 1), .slice none 0 0] _ hV Try.underlying34 rfl info_packet) ?_
        simp only [Act.put, List.setIfInBounds_toArray, List.set_cons_succ, List.set_cons_zero]
        refine held_all2 2 3 (by kernel_rfl) ?_ ?_
        · refine op_value 2 159 _ (.slice (some ⟨W13.drew.heap.size, 0, none⟩) 1 1) (W13.drew.alloc (.cells #[.int .i64 3, .int .i64 t'.ep, .int .i64 t'.pe, .int .i64 0, .int .i64 ((t'.ne : Int) - 1), .slice none 0 0] 34)) rfl rfl rfl (exec_pktK _ rfl _ _ _ _ _ _ _ _ rfl) ⟨hS14, ?_⟩
          simp only [Act.put, List.setIfInBounds_toArray, List.set_cons_succ, List.set_cons_zero]
          refine held_all1 3 (by kernel_rfl) (op_value 3 4 _ (.slice ar 1 cr) (W13.drew.alloc (.cells #[.int .i64 3, .int .i64 t'.ep, .int .i64 t'.pe, .int .i64 0, .int .i64 ((t'.ne : Int) - 1), .slice none 0 0] 34)) rfl rfl rfl (rfl) ⟨hS14, ?_⟩)
          simp only [Act.put, List.setIfInBounds_toArray, List.set_cons_succ, List.set_cons_zero]
          refine held_all1 4 (by kernel_rfl) (op_value 4 5 _ (.slice (some ⟨W13.drew.heap.size, 0, none⟩) 1 1) (W13.drew.alloc (.cells #[.int .i64 3, .int .i64 t'.ep, .int .i64 t'.pe, .int .i64 0, .int .i64 ((t'.ne : Int) - 1), .slice none 0 0] 34)) rfl rfl rfl (rfl) ⟨hS14, ?_⟩)
          simp only [Act.put, List.setIfInBounds_toArray, List.set_cons_succ, List.set_cons_zero]
          refine wpAnyH_done (by kernel_rfl) ?_ _
          refine NoPanic.normal ?_
          go_wp2
          go_ret2
          rw [HTK.out, HDT.out, HBQ.out]
          exact ⟨_, _, _, rfl, hL15, hv2, hr15, hP15, hC15⟩
        · refine op_value 3 4 _ (.slice ar 1 cr) (W13.drew) rfl rfl rfl (rfl) ⟨hS13, ?_⟩
          simp only [Act.put, List.setIfInBounds_toArray, List.set_cons_succ, List.set_cons_zero]
          refine held_all1 2 (by kernel_rfl) (op_value 2 159 _ (.slice (some ⟨W13.drew.heap.size, 0, none⟩) 1 1) (W13.drew.alloc (.cells #[.int .i64 3, .int .i64 t'.ep, .int .i64 t'.pe, .int .i64 0, .int .i64 ((t'.ne : Int) - 1), .slice none 0 0] 34)) rfl rfl rfl (exec_pktK _ rfl _ _ _ _ _ _ _ _ rfl) ⟨hS14, ?_⟩)
          simp only [Act.put, List.setIfInBounds_toArray, List.set_cons_succ, List.set_cons_zero]
          refine held_all1 4 (by kernel_rfl) (op_value 4 5 _ (.slice (some ⟨W13.drew.heap.size, 0, none⟩) 1 1) (W13.drew.alloc (.cells #[.int .i64 3, .int .i64 t'.ep, .int .i64 t'.pe, .int .i64 0, .int .i64 ((t'.ne : Int) - 1), .slice none 0 0] 34)) rfl rfl rfl (rfl) ⟨hS14, ?_⟩)
          simp only [Act.put, List.setIfInBounds_toArray, List.set_cons_succ, List.set_cons_zero]
          refine wpAnyH_done (by kernel_rfl) ?_ _
          refine NoPanic.normal ?_
          go_wp2
          go_ret2
          rw [HTK.out, HDT.out, HBQ.out]
          exact ⟨_, _, _, rfl, hL15, hv2, hr15, hP15, hC15⟩
      have HBQ : Hid (bringK t p = ([], [ackK t], t)) := by
        show _ = _
        unfold bringK
        rw [if_neg hs0, if_neg hsn]
      have d8 : (p.s == (t.ne : Int)) = false := beq_eq_false_iff_ne.2 hsn
      clear hs0 hsn hps
      go_wp2_with fail
      go_quiet (fail)
      have hL10 := hL5.after (Below.drewN (Below.refl _ _) nq)
      have hC10 := hC5.trans (S' := fun _ => False) (Chg.of_below (Below.drewN (Below.refl W5.heap.size W5) nq) (Nat.le_refl _)) (fun _ _ e => e.elim)
      clear hL5 hS5 kB5 hC5 b3 c5 d7 d8
      generalize W5.drewN nq = W10 at *
      go_wp2_with fail
      have hr10 : RowsO W10 T w.heap.size (.slice none 0 0) [] := RowsO.nil _ _ _
      have hne' : t.ne ≤ 1073741825 := hL10.ok.ne.2
      have hpos : 1 ≤ t.ne := hL10.ok.ne.1
      refine (HBR.out 3 _ _ W10 hL10.head).mono ?_
      rintro e W11 ⟨rfl, hb11⟩
      obtain ⟨P, hPd⟩ : ∃ P, P = W11.heap.size := ⟨_, rfl⟩
      have hkP := Blk.new W11 34 #[.int .i64 3, .int .i64 t.ep, .int .i64 t.pe, .int .i64 0, .int .i64 0, .slice none 0 0]
      have hb12 : Below W10.heap.size W10 (W11.alloc (.cells #[.int .i64 3, .int .i64 t.ep, .int .i64 t.pe, .int .i64 0, .int .i64 0, .slice none 0 0] 34)) := hb11.trans ((below_new W11 _).mono hb11.size)
      have hL12 := hL10.after hb12
      have g5 : (W11.alloc (.cells #[.int .i64 3, .int .i64 t.ep, .int .i64 t.pe, .int .i64 0, .int .i64 0, .slice none 0 0] 34)).cell? ⟨G, 5, none⟩ = some (.int .i64 (t.ne : Int)) := hL12.head.cell (j := 5) rfl
      have p4 : (W11.alloc (.cells #[.int .i64 3, .int .i64 t.ep, .int .i64 t.pe, .int .i64 0, .int .i64 0, .slice none 0 0] 34)).cell? ⟨W11.heap.size, 4, none⟩ = some (.int .i64 0) := hkP.cell (j := 4) rfl
      have f4 := hkP.frozen 4
      have hPl : W10.heap.size ≤ W11.heap.size := hb11.size
      have hkP13 := Blk.new W11 34 #[.int .i64 3, .int .i64 t.ep, .int .i64 t.pe, .int .i64 0, .int .i64 ((t.ne : Int) - 1), .slice none 0 0]
      have hb13 : Below W10.heap.size W10 (W11.alloc (.cells #[.int .i64 3, .int .i64 t.ep, .int .i64 t.pe, .int .i64 0, .int .i64 ((t.ne : Int) - 1), .slice none 0 0] 34)) := hb11.trans ((below_new W11 _).mono hb11.size)
      clear HBR hkP hb12 hL12 hb11
      go_wp2_with fail
      rw [← hPd] at hkP13 ⊢
      clear g5 p4 f4 hPd hPl hne' hpos
      generalize W11.alloc (.cells #[.int .i64 3, .int .i64 t.ep, .int .i64 t.pe, .int .i64 0, .int .i64 ((t.ne : Int) - 1), .slice none 0 0] 34) = W13 at *
      obtain ⟨hL15, hP15, hb15⟩ := one_toldR (m := w.heap.size) (ackK t) hL10 hb13.drew hC10.size rfl
      have hr15 := hr10.after hb15
      have hC15 := hC10.trans (S' := fun _ => False) (Chg.of_below hb15 (Nat.le_refl _)) (fun _ _ e => e.elim)
      have hS13 : W13.drew.rangeAt P 0 [.int .i64 3, .int .i64 t.ep, .int .i64 t.pe, .int .i64 0, .int .i64 ((t.ne : Int) - 1), .slice none 0 0] := hkP13.drew.rangeK
      have hS14 : (W13.drew.alloc (.cells #[.int .i64 3, .int .i64 t.ep, .int .i64 t.pe, .int .i64 0, .int .i64 ((t.ne : Int) - 1), .slice none 0 0] 34)).rangeAt P 0 [.int .i64 3, .int .i64 t.ep, .int .i64 t.pe, .int .i64 0, .int .i64 ((t.ne : Int) - 1), .slice none 0 0] := (hkP13.drew.below (below_new W13.drew _) hkP13.drew.lt).rangeK
      refine held_begin (fun V => V.rangeAt P 0 [.int .i64 3, .int .i64 t.ep, .int .i64 t.pe, .int .i64 0, .int .i64 ((t.ne : Int) - 1), .slice none 0 0]) (by kernel_rfl) ?_
      refine held_take 0 157 _ (.slice none 0 0) rfl rfl (by kernel_rfl) (by kernel_rfl) (by kernel_rfl) rfl hS13 (fun _ _ => rfl) ?_
      simp only [Act.put, List.setIfInBounds_toArray, List.set_cons_succ, List.set_cons_zero]
      refine held_take 1 158 _ (.agg #[.int .i64 3, .int .i64 t.ep, .int .i64 t.pe, .int .i64 0, .int .i64 ((t.ne : Int) - 1), .slice none 0 0]) rfl rfl (by kernel_rfl) (by kernel_rfl) (by kernel_rfl) rfl hS13 (fun V hV => exec_load 34 _ rfl P 0 rfl [.int .i64 3, .int .i64 t.ep, .int .i64 t.pe, .int .i64 0, .int .i64 ((t.ne : Int) - 1), .slice none 0 0] _ hV Try.underlying34 rfl info_packet) ?_
      simp only [Act.put, List.setIfInBounds_toArray, List.set_cons_succ, List.set_cons_zero]
      refine held_all2 2 3 (by kernel_rfl) ?_ ?_
      · refine op_value 2 159 _ (.slice (some ⟨W13.drew.heap.size, 0, none⟩) 1 1) (W13.drew.alloc (.cells #[.int .i64 3, .int .i64 t.ep, .int .i64 t.pe, .int .i64 0, .int .i64 ((t.ne : Int) - 1), .slice none 0 0] 34)) rfl rfl rfl (exec_pktK _ rfl _ _ _ _ _ _ _ _ rfl) ⟨hS14, ?_⟩
        simp only [Act.put, List.setIfInBounds_toArray, List.set_cons_succ, List.set_cons_zero]
        refine held_all1 3 (by kernel_rfl) (op_value 3 4 _ (.slice none 0 0) (W13.drew.alloc (.cells #[.int .i64 3, .int .i64 t.ep, .int .i64 t.pe, .int .i64 0, .int .i64 ((t.ne : Int) - 1), .slice none 0 0] 34)) rfl rfl rfl (rfl) ⟨hS14, ?_⟩)
        simp only [Act.put, List.setIfInBounds_toArray, List.set_cons_succ, List.set_cons_zero]
        refine held_all1 4 (by kernel_rfl) (op_value 4 5 _ (.slice (some ⟨W13.drew.heap.size, 0, none⟩) 1 1) (W13.drew.alloc (.cells #[.int .i64 3, .int .i64 t.ep, .int .i64 t.pe, .int .i64 0, .int .i64 ((t.ne : Int) - 1), .slice none 0 0] 34)) rfl rfl rfl (rfl) ⟨hS14, ?_⟩)
        simp only [Act.put, List.setIfInBounds_toArray, List.set_cons_succ, List.set_cons_zero]
        refine wpAnyH_done (by kernel_rfl) ?_ _
        refine NoPanic.normal ?_
        go_wp2
        go_ret2
        rw [HTK.out, HDT.out, HBQ.out]
        exact ⟨_, _, _, rfl, hL15, hv2, hr15, hP15, hC15⟩
      · refine op_value 3 4 _ (.slice none 0 0) (W13.drew) rfl rfl rfl (rfl) ⟨hS13, ?_⟩
        simp only [Act.put, List.setIfInBounds_toArray, List.set_cons_succ, List.set_cons_zero]
        refine held_all1 2 (by kernel_rfl) (op_value 2 159 _ (.slice (some ⟨W13.drew.heap.size, 0, none⟩) 1 1) (W13.drew.alloc (.cells #[.int .i64 3, .int .i64 t.ep, .int .i64 t.pe, .int .i64 0, .int .i64 ((t.ne : Int) - 1), .slice none 0 0] 34)) rfl rfl rfl (exec_pktK _ rfl _ _ _ _ _ _ _ _ rfl) ⟨hS14, ?_⟩)
        simp only [Act.put, List.setIfInBounds_toArray, List.set_cons_succ, List.set_cons_zero]
        refine held_all1 4 (by kernel_rfl) (op_value 4 5 _ (.slice (some ⟨W13.drew.heap.size, 0, none⟩) 1 1) (W13.drew.alloc (.cells #[.int .i64 3, .int .i64 t.ep, .int .i64 t.pe, .int .i64 0, .int .i64 ((t.ne : Int) - 1), .slice none 0 0] 34)) rfl rfl rfl (rfl) ⟨hS14, ?_⟩)
        simp only [Act.put, List.setIfInBounds_toArray, List.set_cons_succ, List.set_cons_zero]
        refine wpAnyH_done (by kernel_rfl) ?_ _
        refine NoPanic.normal ?_
        go_wp2
        go_ret2
        rw [HTK.out, HDT.out, HBQ.out]
        exact ⟨_, _, _, rfl, hL15, hv2, hr15, hP15, hC15⟩
end Go.Proofs.Ytichmnbhephkkaa
