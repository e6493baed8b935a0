/-
  What is proved here: the statement LinkScripts is true of any epoch and any steps.
  Conditions: they lie in memory.
-/
import Derived.Test.YtichmnbhephkkaaLinkBoth
import Derived.BigQuiet
import Derived.Deep.QuietTactic
namespace Go.Proofs.Ytichmnbhephkkaa
open Go.RowKit

theorem hid_of {p : Prop} (h : p) : Hid p := h
set_option maxRecDepth 100000 in
set_option maxHeartbeats 8000000 in
theorem linkScripts_any (ep : Int) (al : Option Addr) (cl : Nat) (L : List St13) (w : World) (hL : Steps13 w (.slice al L.length cl) L) : Calls Try.prog 3 #[.int .i64 ep, .slice al L.length cl] w fun e w' => e = .returned (.bool true) ∧ Below w.heap.size w w' := by
  go_enter Try.func3, Try.ntmps3
  go_wp2_with fail
  refine (awake13_any w).mono ?_
  rintro e W1 ⟨rfl, hb1⟩
  go_wp2_with fail
  refine (much13_any al cl L W1 (hL.below hb1)).mono ?_
  rintro e W2 ⟨m, rfl, hb2, hF⟩
  have hB2 : Below w.heap.size w W2 := hb1.trans (hb2.mono hb1.size)
  cases m with
  | true =>
    clear hF hL hb1 hb2
    go_wp2
    go_ret
    exact ⟨rfl, hB2⟩
  | false =>
    have HF : Hid (Fair13 L 200) := hF rfl
    have HAT : Hid (∀ k, k < L.length → ∃ (y : St13) (q off : Nat) (ba : Option Addr) (bc : Nat) (pa : Option Addr) (pc : Nat), L[k]? = some y ∧ al = some ⟨q, off, none⟩ ∧ ∀ V, Below w.heap.size w V → (∀ (j : Nat) x, (stL13 y (.slice ba y.b.length bc) (.slice pa y.p.b.length pc))[j]? = some x → V.cell? ⟨q, off + k * 8 + j, none⟩ = some x) ∧ Seg V (.slice ba y.b.length bc) y.b ∧ Seg V (.slice pa y.p.b.length pc) y.p.b) := fun k hk => hL.at hk
    have hws2 : w.heap.size ≤ W2.heap.size := hB2.size
    clear hF hb1 hb2 hL
    obtain ⟨len, hlen⟩ : ∃ len, len = L.length := ⟨_, rfl⟩
    have HLEN : Hid (len = L.length) := hlen
    rw [← hlen]
    clear hlen
    by_cases he : 1 ≤ ep ∧ ep ≤ 1073741824
    · go_wp2_with fail
      refine (newK_any ep W2 he.1 he.2).mono ?_
      rintro e W3 ⟨G, rfl, hG, hk3, hb3⟩
      have hL3 := new_lp (w0 := W2) he.1 he.2 hG hk3
      clear hk3
      go_wp2_with fail
      refine (newR_any ep W3 he.1 he.2).mono ?_
      rintro e W4 ⟨rfl, hk4, hb4⟩
      have hBK := BK.new he.1 he.2 hL3 hb3.size hk4 hb4
      have hB4 : Below w.heap.size w W4 := (hB2.trans (hb3.mono hws2)).trans (hb4.mono (Nat.le_trans hws2 hb3.size))
      obtain ⟨G', hG'⟩ : ∃ G', G' = W3.heap.size := ⟨_, rfl⟩
      rw [← hG'] at hBK ⊢
      clear hG' hL3 hk4 hb3 hb4 he hG
      go_wp2_with fail
      have HBK0 : Hid (BK W4 (fun q => q = G ∨ q = G') W2.heap.size G G' (.slice none 0 0) (.slice none 0 0) (newK ep)) := hBK
      have HB4 : Hid (Below w.heap.size w W4) := hB4
      clear hBK hB4 hB2
      go_loopw [11] (fun i wr => ∃ (k : Nat) (T : Nat → Prop) (v v' : Value) (s : KS), i = .int .i64 (k : Int) ∧ k ≤ len ∧ k ≤ 150 ∧ BK wr T W2.heap.size G G' v v' s ∧ Below w.heap.size w wr) (fun i _ => 150 - (intOf i).toNat)
      case atStart => exact ⟨0, _, _, _, _, rfl, Nat.zero_le _, Nat.zero_le _, HBK0.out, HB4.out⟩
      case round =>
        obtain ⟨k, T, v, v', s, rfl, hk, hk2, hBK, hB⟩ := hrel
        clear HBK0 HB4
        by_cases hlt : k < len
        · have i1 : decide ((k : Int) < (len : Int)) = true := decide_eq_true (by omega)
          by_cases hlt2 : k < 150
          · have i2 : decide ((k : Int) < 150) = true := decide_eq_true (by omega)
            obtain ⟨y, q, off, ba, bc, pa, pc, hy, e1, hat⟩ := HAT.out k (by rw [← HLEN.out]; exact hlt)
            subst e1
            have hfair := HF.out k y (by omega) hy
            have ix : ∀ V, (Instr.indexAt 22 (.slice (some ⟨q, off, none⟩) len cl) (.int .i64 (k : Int))).run Try.prog V = .ok (.pointer (some ⟨q, off + k * 8, none⟩)) V := fun V => index_st13 q off len cl k hlt V
            obtain ⟨o, ho⟩ : ∃ o, o = off + k * 8 := ⟨_, rfl⟩
            have HX : Hid (∀ V, Below w.heap.size w V → V.cell? ⟨q, o, none⟩ = some (.int .i64 y.act) ∧ V.cell? ⟨q, o + 1, none⟩ = some (.slice ba y.b.length bc) ∧ V.rangeAt q (o + 2) (kpL y.p (.slice pa y.p.b.length pc))) := fun V hV => by
              obtain ⟨hc, -, -⟩ := hat V hV
              rw [← ho] at hc
              exact ⟨hc 0 _ rfl, hc 1 _ rfl, fun j x hx => by rw [Nat.add_assoc, Nat.add_comm 2 j]; exact hc (j + 2) x hx⟩
            have HSB : Hid (∀ V, Below w.heap.size w V → Seg V (.slice ba y.b.length bc) y.b) := fun V hV => (hat V hV).2.1
            have HSP : Hid (∀ V (T : Nat → Prop), Below w.heap.size w V → (∀ q, T q → W2.heap.size ≤ q) → SegA V T (.slice pa y.p.b.length pc) y.p.b) := fun V T hV hT => seg_apart (hat w (Below.refl _ _)).2.2 hV hws2 hT
            have hwk : IntKind.i64.wrap ((k : Int) + 1) = (k : Int) + 1 := by rw [IntKind.wrap_i64]; omega
            have HLO : Hid (∀ q, LM G v q → w.heap.size ≤ q) := fun q e => Nat.le_trans hws2 (hBK.p.ge q (hBK.p.sub q e))
            have HLO' : Hid (∀ q, LM G' v' q → w.heap.size ≤ q) := fun q e => Nat.le_trans hws2 (hBK.r.ge q (hBK.r.sub q e))
            have hz : W2.heap.size ≤ wr.heap.size := Nat.le_of_lt (Nat.lt_of_le_of_lt (hBK.p.ge G hBK.p.tG) (hBK.p.lt G hBK.p.tG))
            obtain ⟨x0, x1, -⟩ := HX.out wr hB
            rw [← ho] at ix
            clear ho hat hy
            by_cases ha0 : y.act = 0
            · rw [ha0] at x0
              clear ha0
              have HTK := hid_of (tickK_any wr T W2.heap.size G v s hBK.p)
              have HBK1 : Hid (BK wr T W2.heap.size G G' v v' s) := hBK
              clear hBK x1
              go_wp2_with fail
              refine HTK.out.mono ?_
              rintro e W5 ⟨pv, rfl, hL5, hP5, hC5⟩
              have hR5 := HBK1.out.mid (hC5.weaken (fun q e => .inl e))
              have hB5 : Below w.heap.size w W5 := hB.trans (hC5.below (fun q hq => HLO.out q (.inl hq)) hB.size)
              clear HTK x0 hB
              go_wp2_with fail
              refine (tickR_any W5 T W2.heap.size G' v' s hR5).mono ?_
              rintro e W6 ⟨pv', rfl, hR6, hP6, hC6⟩
              have hBK6 := HBK1.out.join hL5 rfl hR6 rfl (hC6.weaken (fun q e => .inl e))
              have hP5' := HBK1.out.told hP5 (hC6.weaken (fun q e => .inl e))
              have hB6 : Below w.heap.size w W6 := hB5.trans (hC6.below (fun q hq => HLO'.out q (.inl hq)) hB5.size)
              clear hL5 hP5 hC5 hR5 hB5 hR6 hC6
              go_wp2_with fail
              refine (sameAll_self W6 T T _ _ pv pv' _ hP5' hP6 (tickK_few s)).mono ?_
              rintro e W8 ⟨rfl, hb7⟩
              have hBK8 := hBK6.after hb7
              have hB8 : Below w.heap.size w W8 := hB6.trans (hb7.mono hB6.size)
              clear hBK6 hP5' hP6 hB6 hb7 HBK1
              generalize (tickK s).2 = s8 at *
              have hp8 := hBK8.p
              have hr8 := hBK8.r
              obtain ⟨ao8, co8, e8⟩ := hp8.row.shape
              obtain ⟨ar8, cr8, f8⟩ := hr8.row.shape
              have hk8 := hp8.head
              rw [e8] at hk8
              have KW : ∀ j, Calls Try.prog 18 #[.pointer (some ⟨G, 0, none⟩)] (W8.drewN j) fun r w' => r = .returned (.int .i64 (s8.wt.length : Int)) ∧ w' = W8.drewN j := fun j => waitK_any G _ _ _ _ _ (hk8.drewN j)
              have KP : ∀ j, Calls Try.prog 19 #[.pointer (some ⟨G, 0, none⟩)] (W8.drewN j) fun r w' => r = .returned (.int .i64 s8.pe) ∧ w' = W8.drewN j := fun j => peerK_any G _ _ _ (hk8.drewN j)
              have c1 : W8.cell? ⟨G', 1, none⟩ = some (.int .i64 s8.pe) := hr8.head.cell (j := 1) rfl
              have c2 : W8.cell? ⟨G', 2, none⟩ = some (.slice ar8 s8.wt.length cr8) := by rw [← f8]; exact hr8.head.cell (j := 2) rfl
              have HBK : Hid (BK W8 T W2.heap.size G G' v v' s8) := hBK8
              clear hp8 hr8 hk8 hBK8 e8 f8
              generalize s8.wt.length = n8 at KW c2
              generalize s8.pe = p8 at KP c1
              have dn : ((n8 : Int) != (n8 : Int)) = false := bne_self_eq_false _
              have dp : (p8 != p8) = false := bne_self_eq_false _
              go_wp2_with fail
              go_quiet (first | (go_at_call 18; refine Calls.quiet_of_same (KW _)) | (go_at_call 19; refine Calls.quiet_of_same (KP _)))
              clear KW KP c1 c2 dn dp
              go_wp2
              go_roundw
              case rel => exact ⟨k + 1, _, _, _, _, by go_num, hlt, hlt2, HBK.out.after (Below.drewN (Below.refl _ _) _), Below.drewN hB8 _⟩
              case measure => simp [intOf]; omega
            have a0 : (y.act == 0) = false := beq_eq_false_iff_ne.2 ha0
            by_cases ha1 : y.act = 1
            · have a1 : (y.act == 1) = true := beq_iff_eq.2 ha1
              clear ha0 ha1
              have HSD := hid_of (sendK_any wr T W2.heap.size G v s _ y.b hBK.p hz (HSB.out wr hB) (by omega))
              have HBK1 : Hid (BK wr T W2.heap.size G G' v v' s) := hBK
              have HNB : Hid (y.b.length ≤ 1000000) := (by omega : y.b.length ≤ 1000000)
              clear hBK hfair
              go_wp2_with fail
              refine HSD.out.mono ?_
              rintro e W5 ⟨v1, rfl, hL5, hv5, hC5⟩
              have hR5 := HBK1.out.sent hL5 hv5 hC5
              have hB5 : Below w.heap.size w W5 := hB.trans (hC5.below (fun q hq => HLO.out q hq) hB.size)
              have hz5 : wr.heap.size ≤ W5.heap.size := hC5.size
              obtain ⟨-, x1, -⟩ := HX.out W5 hB5
              have HSR := hid_of (sendR_any W5 _ W2.heap.size G' v' s _ y.b hR5 (Nat.le_trans hz hz5) (HSB.out W5 hB5) HNB.out)
              clear HSD x0 hB a0 a1 hR5
              go_wp2_with fail
              refine HSR.out.mono ?_
              rintro e W8 ⟨v2, rfl, hR8, hv8, hC8⟩
              have hBK8 := HBK1.out.both hL5 hv5 hz5 hR8 hv8 hC8
              have hB8 : Below w.heap.size w W8 := hB5.trans (hC8.below (fun q hq => HLO'.out q hq) hB5.size)
              have dg : ((sendK s y.b).1 != (sendK s y.b).1) = false := bne_self_eq_false _
              clear HSR hL5 hv5 hC5 hB5 hR8 hv8 hC8 x1 HBK1
              generalize (sendK s y.b).1 = g8 at *
              generalize (sendK s y.b).2 = s8 at *
              have hp8 := hBK8.p
              have hr8 := hBK8.r
              obtain ⟨ao8, co8, e8⟩ := hp8.row.shape
              obtain ⟨ar8, cr8, f8⟩ := hr8.row.shape
              have hk8 := hp8.head
              rw [e8] at hk8
              have KW : ∀ j, Calls Try.prog 18 #[.pointer (some ⟨G, 0, none⟩)] (W8.drewN j) fun r w' => r = .returned (.int .i64 (s8.wt.length : Int)) ∧ w' = W8.drewN j := fun j => waitK_any G _ _ _ _ _ (hk8.drewN j)
              have KP : ∀ j, Calls Try.prog 19 #[.pointer (some ⟨G, 0, none⟩)] (W8.drewN j) fun r w' => r = .returned (.int .i64 s8.pe) ∧ w' = W8.drewN j := fun j => peerK_any G _ _ _ (hk8.drewN j)
              have c1 : W8.cell? ⟨G', 1, none⟩ = some (.int .i64 s8.pe) := hr8.head.cell (j := 1) rfl
              have c2 : W8.cell? ⟨G', 2, none⟩ = some (.slice ar8 s8.wt.length cr8) := by rw [← f8]; exact hr8.head.cell (j := 2) rfl
              have HBK : Hid (BK W8 (fun q => (T q ∨ v1.ownBlock = some q) ∨ v2.ownBlock = some q) W2.heap.size G G' v1 v2 s8) := hBK8
              clear hp8 hr8 hk8 hBK8 e8 f8
              generalize s8.wt.length = n8 at KW c2
              generalize s8.pe = p8 at KP c1
              have dn : ((n8 : Int) != (n8 : Int)) = false := bne_self_eq_false _
              have dp : (p8 != p8) = false := bne_self_eq_false _
              go_wp2_with fail
              go_quiet (first | (go_at_call 18; refine Calls.quiet_of_same (KW _)) | (go_at_call 19; refine Calls.quiet_of_same (KP _)))
              clear KW KP c1 c2 dn dp
              go_wp2
              go_roundw
              case rel => exact ⟨k + 1, _, _, _, _, by go_num, hlt, hlt2, HBK.out.after (Below.drewN (Below.refl _ _) _), Below.drewN hB8 _⟩
              case measure => simp [intOf]; omega
            have a1 : (y.act == 1) = false := beq_eq_false_iff_ne.2 ha1
            by_cases ha2 : y.act = 2
            · have a2 : (y.act == 2) = true := beq_iff_eq.2 ha2
              clear ha0 ha1 ha2
              have HTK := takeK_any wr T W2.heap.size G v s y.p pa pc hBK.p hz (HSP.out wr T hB hBK.p.ge)
              unfold kpV kpL at HTK
              have HTK1 := hid_of HTK
              have HBK1 : Hid (BK wr T W2.heap.size G G' v v' s) := hBK
              have hge := hBK.p.ge
              obtain ⟨-, -, hr⟩ := HX.out wr hB
              have r0 : wr.cell? ⟨q, o + 2, none⟩ = some (.int .i64 y.p.k) := hr 0 _ rfl
              have r1 : wr.cell? ⟨q, o + 2 + 1, none⟩ = some (.int .i64 y.p.f) := hr 1 _ rfl
              have r2 : wr.cell? ⟨q, o + 2 + 2, none⟩ = some (.int .i64 y.p.t) := hr 2 _ rfl
              have r3 : wr.cell? ⟨q, o + 2 + 3, none⟩ = some (.int .i64 y.p.s) := hr 3 _ rfl
              have r4 : wr.cell? ⟨q, o + 2 + 4, none⟩ = some (.int .i64 y.p.a) := hr 4 _ rfl
              have r5 : wr.cell? ⟨q, o + 2 + 5, none⟩ = some (.slice pa y.p.b.length pc) := hr 5 _ rfl
              clear HTK hBK hfair x1 hr
              go_wp2_with fail
              refine HTK1.out.mono ?_
              rintro e W5 ⟨v1, rv, pv, rfl, hL5, hv5, hrow5, hP5, hC5⟩
              have hR5 := HBK1.out.mid hC5
              have hB5 : Below w.heap.size w W5 := hB.trans (hC5.below (fun q hq => HLO.out q hq) hB.size)
              have hz5 : wr.heap.size ≤ W5.heap.size := hC5.size
              have HTR := takeR_any W5 T W2.heap.size G' v' s y.p pa pc hR5 (Nat.le_trans hz hz5) (HSP.out W5 T hB5 hge)
              unfold kpV kpL at HTR
              have HTR1 := hid_of HTR
              obtain ⟨-, -, hr⟩ := HX.out W5 hB5
              clear HTR HTK1 r0 r1 r2 r3 r4 r5 x0 hB a0 a1 a2 hR5 hge
              have r0 : W5.cell? ⟨q, o + 2, none⟩ = some (.int .i64 y.p.k) := hr 0 _ rfl
              have r1 : W5.cell? ⟨q, o + 2 + 1, none⟩ = some (.int .i64 y.p.f) := hr 1 _ rfl
              have r2 : W5.cell? ⟨q, o + 2 + 2, none⟩ = some (.int .i64 y.p.t) := hr 2 _ rfl
              have r3 : W5.cell? ⟨q, o + 2 + 3, none⟩ = some (.int .i64 y.p.s) := hr 3 _ rfl
              have r4 : W5.cell? ⟨q, o + 2 + 4, none⟩ = some (.int .i64 y.p.a) := hr 4 _ rfl
              have r5 : W5.cell? ⟨q, o + 2 + 5, none⟩ = some (.slice pa y.p.b.length pc) := hr 5 _ rfl
              clear hr
              go_wp2_with fail
              refine HTR1.out.mono ?_
              rintro e W6 ⟨v2, rv2, pv2, rfl, hR6, hv6, hrow6, hP6, hC6⟩
              have hBK6 := HBK1.out.join hL5 hv5 hR6 hv6 hC6
              have hP5' := HBK1.out.told hP5 hC6
              have hrow5' := HBK1.out.toldR hrow5 hC6
              have hB6 : Below w.heap.size w W6 := hB5.trans (hC6.below (fun q hq => HLO'.out q hq) hB5.size)
              have hfew := takeK_few s y.p
              have HSM : Hid (Calls Try.prog 17 #[rv, rv2] W6 fun e w' => e = .returned (.bool true) ∧ Below W6.heap.size W6 w') := by
                have := same7_any rv rv2 _ _ W6 (hrow5'.rowsV (by unfold maxLen; omega)) (hrow6.rowsV (by unfold maxLen; omega))
                rw [decide_eq_true rfl] at this
                exact this
              have HFEW : Hid ((takeK s y.p).2.1.length ≤ 1000) := hfew.2
              clear HTR1 hL5 hP5 hC5 hB5 hR6 hC6 hrow5 hrow5' hrow6 hv5 hv6 r0 r1 r2 r3 r4 r5 hfew HBK1
              go_wp2_with fail
              refine HSM.out.mono ?_
              rintro e W7 ⟨rfl, hb7⟩
              have hP57 := hP5'.after hb7
              have hP67 := hP6.after hb7
              clear HSM hP5' hP6
              go_wp2_with fail
              refine (sameAll_self W7 T T _ _ pv pv2 _ hP57 hP67 HFEW.out).mono ?_
              rintro e W8 ⟨rfl, hb8⟩
              have hBK8 := (hBK6.after hb7).after hb8
              have hB8 : Below w.heap.size w W8 := (hB6.trans (hb7.mono hB6.size)).trans (hb8.mono (Nat.le_trans hB6.size hb7.size))
              clear hBK6 hP57 hP67 hB6 hb7 hb8 HFEW
              generalize (takeK s y.p).2.2 = s8 at *
              have hp8 := hBK8.p
              have hr8 := hBK8.r
              obtain ⟨ao8, co8, e8⟩ := hp8.row.shape
              obtain ⟨ar8, cr8, f8⟩ := hr8.row.shape
              have hk8 := hp8.head
              rw [e8] at hk8
              have KW : ∀ j, Calls Try.prog 18 #[.pointer (some ⟨G, 0, none⟩)] (W8.drewN j) fun r w' => r = .returned (.int .i64 (s8.wt.length : Int)) ∧ w' = W8.drewN j := fun j => waitK_any G _ _ _ _ _ (hk8.drewN j)
              have KP : ∀ j, Calls Try.prog 19 #[.pointer (some ⟨G, 0, none⟩)] (W8.drewN j) fun r w' => r = .returned (.int .i64 s8.pe) ∧ w' = W8.drewN j := fun j => peerK_any G _ _ _ (hk8.drewN j)
              have c1 : W8.cell? ⟨G', 1, none⟩ = some (.int .i64 s8.pe) := hr8.head.cell (j := 1) rfl
              have c2 : W8.cell? ⟨G', 2, none⟩ = some (.slice ar8 s8.wt.length cr8) := by rw [← f8]; exact hr8.head.cell (j := 2) rfl
              have HBK : Hid (BK W8 T W2.heap.size G G' v1 v2 s8) := hBK8
              clear hp8 hr8 hk8 hBK8 e8 f8
              generalize s8.wt.length = n8 at KW c2
              generalize s8.pe = p8 at KP c1
              have dn : ((n8 : Int) != (n8 : Int)) = false := bne_self_eq_false _
              have dp : (p8 != p8) = false := bne_self_eq_false _
              go_wp2_with fail
              go_quiet (first | (go_at_call 18; refine Calls.quiet_of_same (KW _)) | (go_at_call 19; refine Calls.quiet_of_same (KP _)))
              clear KW KP c1 c2 dn dp
              go_wp2
              go_roundw
              case rel => exact ⟨k + 1, _, _, _, _, by go_num, hlt, hlt2, HBK.out.after (Below.drewN (Below.refl _ _) _), Below.drewN hB8 _⟩
              case measure => simp [intOf]; omega
            have a2 : (y.act == 2) = false := beq_eq_false_iff_ne.2 ha2
            clear ha0 ha1 ha2 hfair x1
            have hBK8 := hBK
            have hB8 := hB
            clear hBK hB
            obtain ⟨W8, hW8⟩ : ∃ W8, W8 = wr := ⟨_, rfl⟩
            rw [← hW8] at hBK8 hB8 x0 ⊢
            clear hW8
            have hp8 := hBK8.p
            have hr8 := hBK8.r
            obtain ⟨ao8, co8, e8⟩ := hp8.row.shape
            obtain ⟨ar8, cr8, f8⟩ := hr8.row.shape
            have hk8 := hp8.head
            rw [e8] at hk8
            have KW : ∀ j, Calls Try.prog 18 #[.pointer (some ⟨G, 0, none⟩)] (W8.drewN j) fun r w' => r = .returned (.int .i64 (s.wt.length : Int)) ∧ w' = W8.drewN j := fun j => waitK_any G _ _ _ _ _ (hk8.drewN j)
            have KP : ∀ j, Calls Try.prog 19 #[.pointer (some ⟨G, 0, none⟩)] (W8.drewN j) fun r w' => r = .returned (.int .i64 s.pe) ∧ w' = W8.drewN j := fun j => peerK_any G _ _ _ (hk8.drewN j)
            have c1 : W8.cell? ⟨G', 1, none⟩ = some (.int .i64 s.pe) := hr8.head.cell (j := 1) rfl
            have c2 : W8.cell? ⟨G', 2, none⟩ = some (.slice ar8 s.wt.length cr8) := by rw [← f8]; exact hr8.head.cell (j := 2) rfl
            have HBK : Hid (BK W8 T W2.heap.size G G' v v' s) := hBK8
            clear hp8 hr8 hk8 hBK8 e8 f8
            generalize s.wt.length = n8 at KW c2
            generalize s.pe = p8 at KP c1
            have dn : ((n8 : Int) != (n8 : Int)) = false := bne_self_eq_false _
            have dp : (p8 != p8) = false := bne_self_eq_false _
            go_wp2_with fail
            go_quiet (first | (go_at_call 18; refine Calls.quiet_of_same (KW _)) | (go_at_call 19; refine Calls.quiet_of_same (KP _)))
            clear KW KP c1 c2 dn dp
            go_wp2
            go_roundw
            case rel => exact ⟨k + 1, _, _, _, _, by go_num, hlt, hlt2, HBK.out.after (Below.drewN (Below.refl _ _) _), Below.drewN hB8 _⟩
            case measure => simp [intOf]; omega
          · have i2 : decide ((k : Int) < 150) = false := decide_eq_false (by omega)
            clear hBK
            go_wp2
            go_ret
            exact ⟨rfl, hB⟩
        · have i1 : decide ((k : Int) < (len : Int)) = false := decide_eq_false (by omega)
          clear hBK
          go_wp2
          go_ret
          exact ⟨rfl, hB⟩
    · go_wp2_with fail
      refine (newK_bad ep W2 he).mono ?_
      rintro e W3 ⟨rfl, rfl⟩
      go_wp2_with fail
      refine (newR_bad ep W3 he).mono ?_
      rintro e W4 ⟨rfl, rfl⟩
      clear he HAT HF
      have HB2 : Hid (Below w.heap.size w W4) := hB2
      clear hB2 hws2 HLEN
      go_wp2_with fail
      go_loopw [11] (fun i wr => i = .int .i64 0 ∧ W4 = wr) (fun _ _ => 0)
      case atStart => exact ⟨rfl, rfl⟩
      case round =>
        obtain ⟨rfl, rfl⟩ := hrel
        cases len with
        | zero =>
          go_wp2
          go_ret
          exact ⟨rfl, HB2.out⟩
        | succ n =>
          have i1 : decide ((0 : Int) < ((n + 1 : Nat) : Int)) = true := decide_eq_true (by omega)
          have i2 : decide ((0 : Int) < (n : Int) + 1) = true := decide_eq_true (by omega)
          go_wp2
          go_ret
          exact ⟨rfl, HB2.out⟩
end Go.Proofs.Ytichmnbhephkkaa
