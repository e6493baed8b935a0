/-
  What is proved here: the document's Grant gives a lease.
  Conditions: the table lies in memory.
-/
import Derived.Test.YthlohlomefiebaaRefLe
namespace Go.Proofs.Ythlohlomefiebaa
open Go.RowKit Go.Maps

/-- What stands behind the store of a longer row. -/
structure MidR (w W : World) (lo G : Nat) (v v' : Value) (l : List LE) (e : LE) : Prop where
  head : Blk W G 29 #[v']
  row : LeR W lo v' (l ++ [e])
  new : ∀ q, v'.ownBlock = some q → v.ownBlock = some q ∨ w.heap.size ≤ q
  chg : Chg (RfM G v) w W
theorem midR {w : World} {lo G : Nat} {ao : Option Addr} {c : Nat} {l : List LE} (h : RfT w lo G (.slice ao l.length c) l) (hlo : lo ≤ w.heap.size) (e : LE) (W1 : World) (hB1 : Below w.heap.size w W1) :
    ∃ a3 n3 c3 W3, (∀ ty, (Builtin.append_ #[27, 27] ty #[.slice ao l.length c, .slice (some ⟨W1.heap.size, 0, none⟩) 1 1]).run Try.prog (W1.alloc (.cells #[.int .i64 e.n, .int .i64 e.d, .int .i64 e.u] 43)) = .ok (.slice a3 n3 c3) W3) ∧ Blk W3 G 29 #[.slice ao l.length c] ∧ MidR w (W3.setCell ⟨G, 0, none⟩ (.slice a3 n3 c3)) lo G (.slice ao l.length c) (.slice a3 n3 c3) l e := by
  have h1 := h.after hB1 (Nat.le_refl _)
  have hlen := h.ok.len
  obtain ⟨v3, W3, r0, r1, r2, r3⟩ := h1.row.more e (by omega) (Nat.le_trans hlo hB1.size)
  obtain ⟨a3, c3, rfl⟩ := r1.shape
  have hGl := h.head.lt
  have hs1 := hB1.size
  have hk3 := h1.head.chg r3 h1.nG
  have hc3 : Chg (fun q => q = G) W3 (W3.setCell ⟨G, 0, none⟩ (.slice a3 (l ++ [e]).length c3)) := (Chg.refl (fun q => q = G) W3).setCell G 0 _ (fun _ => rfl)
  have hnG : ∀ q, (Value.slice a3 (l ++ [e]).length c3).ownBlock = some q → q ≠ G := fun q hq e2 => by
    rcases r2 q hq with k | k
    · exact h.nG (by rw [k, e2])
    · omega
  refine ⟨a3, _, c3, W3, r0, hk3, ⟨(hk3.set 0 _).of_eq rfl, r1.chg hc3 hnG, fun q hq => (r2 q hq).imp_right (fun k => by omega), ?_⟩⟩
  exact ((Chg.of_below (S := RfM G (.slice ao l.length c)) hB1 (Nat.le_refl _)).trans (S' := RfM G (.slice ao l.length c)) (r3.weaken (fun q e2 => .inr e2)) (fun _ _ e2 => e2)).trans (S' := RfM G (.slice ao l.length c)) (hc3.weaken (fun q e2 => .inl e2)) (fun _ _ e2 => e2)
set_option maxRecDepth 100000 in
set_option maxHeartbeats 4000000 in
theorem rgrant16_any {w : World} {lo G : Nat} {v : Value} {l : List LE} (h : RfT w lo G v l) (hlo : lo ≤ w.heap.size) (d now life : Int) : Calls Try.prog 22 #[.pointer (some ⟨G, 0, none⟩), .int .i64 d, .int .i64 now, .int .i64 life] w fun e w' => e = .returned (.tuple #[leV (grantT l d now life).1.1, .int .i64 (grantT l d now life).1.2]) ∧ ∃ v', RfT w' lo G v' (grantT l d now life).2 ∧ (∀ q, v'.ownBlock = some q → v.ownBlock = some q ∨ w.heap.size ≤ q) ∧ Chg (RfM G v) w w' := by
  obtain ⟨ao, c, rfl⟩ := h.row.shape
  have hB := below_newE w (.cells #[.int .i64 0, .int .i64 0, .int .i64 0] 43)
  have kR := Blk.new w 43 #[.int .i64 0, .int .i64 0, .int .i64 0]
  have hh := h.after hB (Nat.le_refl _)
  have HD := fun W => rdev16_any d W
  have HM := fun W => rmom16_any now W
  have HL := fun W => rlife16_any life W
  have hnR : ¬ RfM G (.slice ao l.length c) w.heap.size := h.fresh (Nat.le_refl _)
  have HB : Hid (∀ w9, (w.alloc (.cells #[.int .i64 0, .int .i64 0, .int .i64 0] 43)).grownBy w9 (some w.heap.size) → RfT w9 lo G (.slice ao l.length c) l ∧ (∀ q, (Value.slice ao l.length c).ownBlock = some q → (Value.slice ao l.length c).ownBlock = some q ∨ w.heap.size ≤ q) ∧ Chg (RfM G (.slice ao l.length c)) w w9) := fun w9 hg9 => ⟨hh.store hg9 hnR, fun q e => .inl e, Chg.of_below (low_store hB hg9) (Nat.le_refl _)⟩
  have HB2 : Hid (∀ w2 w9 o, Below (w.alloc (.cells #[.int .i64 0, .int .i64 0, .int .i64 0] 43)).heap.size (w.alloc (.cells #[.int .i64 0, .int .i64 0, .int .i64 0] 43)) w2 → (w2.alloc o).grownBy w9 (some w.heap.size) → RfT w9 lo G (.slice ao l.length c) l ∧ (∀ q, (Value.slice ao l.length c).ownBlock = some q → (Value.slice ao l.length c).ownBlock = some q ∨ w.heap.size ≤ q) ∧ Chg (RfM G (.slice ao l.length c)) w w9) := fun w2 w9 o hb2 hg9 => by
    have hb3 := low_new (hB.trans (hb2.mono hB.size)) o
    exact ⟨(h.after hb3 (Nat.le_refl _)).store hg9 hnR, fun q e => .inl e, Chg.of_below (low_store hb3 hg9) (Nat.le_refl _)⟩
  unfold grantT
  by_cases h1 : deT d = false ∨ moT now = false ∨ liT life = false
  · rw [if_pos h1]
    clear hh h hlo hnR
    unfold leV leL noLE
    cases e1 : deT d with
    | false =>
      rw [e1] at HD
      clear e1 h1
      go_enter Try.func22, Try.ntmps22
      go_wp2_with (first | (go_at_call 31; refine (HD _).mono ?_; rintro e w' ⟨rfl, rfl⟩) | (go_at_call 41; refine (HM _).mono ?_; rintro e w' ⟨rfl, rfl⟩) | (go_at_call 42; refine (HL _).mono ?_; rintro e w' ⟨rfl, rfl⟩) | (refine store_blk rfl 43 _ _ rfl rfl w.heap.size #[.int .i64 0, .int .i64 0, .int .i64 0] rfl rfl 43 _ (kR) info_le rfl (by simp [Value.oneCell']) ?_; intro w9 kR9 hg9 _))
      refine bodyPost_ret (results_pairE Try.results22 _ _ w.heap.size 43 _ (0, 0) _ _ rfl kR9 Try.underlying43 rfl info_le rfl) rfl ?_
      exact ⟨rfl, _, HB.out w9 hg9⟩
    | true =>
      rw [e1] at HD
      cases e2 : moT now with
      | false =>
        rw [e2] at HM
        clear e1 e2 h1
        go_enter Try.func22, Try.ntmps22
        go_wp2_with (first | (go_at_call 31; refine (HD _).mono ?_; rintro e w' ⟨rfl, rfl⟩) | (go_at_call 41; refine (HM _).mono ?_; rintro e w' ⟨rfl, rfl⟩) | (go_at_call 42; refine (HL _).mono ?_; rintro e w' ⟨rfl, rfl⟩) | (refine store_blk rfl 43 _ _ rfl rfl w.heap.size #[.int .i64 0, .int .i64 0, .int .i64 0] rfl rfl 43 _ (kR) info_le rfl (by simp [Value.oneCell']) ?_; intro w9 kR9 hg9 _))
        refine bodyPost_ret (results_pairE Try.results22 _ _ w.heap.size 43 _ (0, 0) _ _ rfl kR9 Try.underlying43 rfl info_le rfl) rfl ?_
        exact ⟨rfl, _, HB.out w9 hg9⟩
      | true =>
        rw [e2] at HM
        have e3 : liT life = false := by simpa [e1, e2] using h1
        rw [e3] at HL
        clear e1 e2 e3 h1
        go_enter Try.func22, Try.ntmps22
        go_wp2_with (first | (go_at_call 31; refine (HD _).mono ?_; rintro e w' ⟨rfl, rfl⟩) | (go_at_call 41; refine (HM _).mono ?_; rintro e w' ⟨rfl, rfl⟩) | (go_at_call 42; refine (HL _).mono ?_; rintro e w' ⟨rfl, rfl⟩) | (refine store_blk rfl 43 _ _ rfl rfl w.heap.size #[.int .i64 0, .int .i64 0, .int .i64 0] rfl rfl 43 _ (kR) info_le rfl (by simp [Value.oneCell']) ?_; intro w9 kR9 hg9 _))
        refine bodyPost_ret (results_pairE Try.results22 _ _ w.heap.size 43 _ (0, 0) _ _ rfl kR9 Try.underlying43 rfl info_le rfl) rfl ?_
        exact ⟨rfl, _, HB.out w9 hg9⟩
  rw [if_neg h1]
  simp only [not_or, Bool.not_eq_false] at h1
  obtain ⟨e1, e2, e3⟩ := h1
  have g1 : 1 ≤ d ∧ d ≤ 4096 := of_decide_eq_true e1
  have g2 : 0 ≤ now ∧ now ≤ 1099511627776 := of_decide_eq_true e2
  have g3 : 1 ≤ life ∧ life ≤ 1048576 := of_decide_eq_true e3
  rw [e1] at HD
  rw [e2] at HM
  rw [e3] at HL
  clear e1 e2 e3
  have HOF := rof16_any hh d
  unfold ofT at HOF
  cases ho : openD l d with
  | some f =>
    rw [ho] at HOF
    rw [if_pos (show (some f).isSome = true from rfl)]
    clear hh h hlo hnR ho g1 g2 g3
    obtain ⟨fn, fd, fu⟩ := f
    unfold leV leL noLE at *
    dsimp only at *
    go_enter Try.func22, Try.ntmps22
    go_wp2_with (first | (go_at_call 31; refine (HD _).mono ?_; rintro e w' ⟨rfl, rfl⟩) | (go_at_call 41; refine (HM _).mono ?_; rintro e w' ⟨rfl, rfl⟩) | (go_at_call 42; refine (HL _).mono ?_; rintro e w' ⟨rfl, rfl⟩))
    refine HOF.mono ?_
    rintro e w2 ⟨rfl, hb2⟩
    have kR2 := kR.below hb2 kR.lt
    go_wp2_with (first | (refine store_blk rfl 43 _ _ rfl rfl w.heap.size #[.int .i64 0, .int .i64 0, .int .i64 0] rfl rfl 43 _ (kR2.below (below_newE w2 _) kR2.lt) info_le rfl (by simp [Value.oneCell']) ?_; intro w9 kR9 hg9 _))
    refine bodyPost_ret (results_pairE Try.results22 _ _ w.heap.size 43 _ (0, 0) _ _ rfl kR9 Try.underlying43 rfl info_le rfl) rfl ?_
    exact ⟨rfl, _, HB2.out w2 w9 _ hb2 hg9⟩
  | none =>
    rw [ho] at HOF
    rw [if_neg (by decide)]
    by_cases h20 : l.length = 20000
    · rw [if_pos h20]
      have d20 : decide ((20000 : Int) ≤ (l.length : Int)) = true := decide_eq_true (by omega)
      have HC0 : Hid (∀ w2, Below (w.alloc (.cells #[.int .i64 0, .int .i64 0, .int .i64 0] 43)).heap.size (w.alloc (.cells #[.int .i64 0, .int .i64 0, .int .i64 0] 43)) w2 → (w2.alloc (.cells #[.int .i64 0, .int .i64 0, .int .i64 0] 43)).cell? ⟨G, 0, none⟩ = some (.slice ao l.length c)) := fun w2 hb2 => (h.after (low_new (hB.trans (hb2.mono hB.size)) _) (Nat.le_refl _)).head.cell (j := 0) rfl
      clear hh h hlo hnR ho g1 g2 g3 h20
      unfold leV leL noLE at *
      dsimp only at *
      go_enter Try.func22, Try.ntmps22
      go_wp2_with (first | (go_at_call 31; refine (HD _).mono ?_; rintro e w' ⟨rfl, rfl⟩) | (go_at_call 41; refine (HM _).mono ?_; rintro e w' ⟨rfl, rfl⟩) | (go_at_call 42; refine (HL _).mono ?_; rintro e w' ⟨rfl, rfl⟩))
      refine HOF.mono ?_
      rintro e w2 ⟨rfl, hb2⟩
      have kR2 := kR.below hb2 kR.lt
      have c2 := HC0.out w2 hb2
      go_wp2_with (first | (refine store_blk rfl 43 _ _ rfl rfl w.heap.size #[.int .i64 0, .int .i64 0, .int .i64 0] rfl rfl 43 _ (kR2.below (below_newE w2 _) kR2.lt) info_le rfl (by simp [Value.oneCell']) ?_; intro w9 kR9 hg9 _))
      refine bodyPost_ret (results_pairE Try.results22 _ _ w.heap.size 43 _ (0, 0) _ _ rfl kR9 Try.underlying43 rfl info_le rfl) rfl ?_
      exact ⟨rfl, _, HB2.out w2 w9 _ hb2 hg9⟩
    · rw [if_neg h20]
      have hlen := h.ok.len
      have d20 : decide ((20000 : Int) ≤ (l.length : Int)) = false := decide_eq_false (by omega)
      have hok := h.ok.snoc (by omega) d (now + life) g1 (by omega) (fun _ => ho)
      have HC0 : Hid (∀ w2, Below (w.alloc (.cells #[.int .i64 0, .int .i64 0, .int .i64 0] 43)).heap.size (w.alloc (.cells #[.int .i64 0, .int .i64 0, .int .i64 0] 43)) w2 → (w2.alloc (.cells #[.int .i64 0, .int .i64 0, .int .i64 0] 43)).cell? ⟨G, 0, none⟩ = some (.slice ao l.length c)) := fun w2 hb2 => (h.after (low_new (hB.trans (hb2.mono hB.size)) _) (Nat.le_refl _)).head.cell (j := 0) rfl
      have HWC : Hid (∀ w2, Below (w.alloc (.cells #[.int .i64 0, .int .i64 0, .int .i64 0] 43)).heap.size (w.alloc (.cells #[.int .i64 0, .int .i64 0, .int .i64 0] 43)) w2 → ∃ Wc, Wc = (w2.alloc (.cells #[.int .i64 0, .int .i64 0, .int .i64 0] 43)).alloc (.cells #[.int .i64 ((l.length : Int) + 1), .int .i64 d, .int .i64 (now + life)] 43) ∧ Below w.heap.size w Wc ∧ RfT Wc lo G (.slice ao l.length c) l ∧ Blk Wc (w2.heap.size + 1) 43 #[.int .i64 ((l.length : Int) + 1), .int .i64 d, .int .i64 (now + life)] ∧ Blk Wc w.heap.size 43 #[.int .i64 0, .int .i64 0, .int .i64 0] ∧ w.heap.size < w2.heap.size) := fun w2 hb2 => by
        have hb3 := low_new (low_new (hB.trans (hb2.mono hB.size)) (.cells #[.int .i64 0, .int .i64 0, .int .i64 0] 43)) (.cells #[.int .i64 ((l.length : Int) + 1), .int .i64 d, .int .i64 (now + life)] 43)
        have kR2 := kR.below hb2 kR.lt
        have kR3 := kR2.below (below_newE w2 (.cells #[.int .i64 0, .int .i64 0, .int .i64 0] 43)) kR2.lt
        have kR4 := kR3.below (below_newE (w2.alloc (.cells #[.int .i64 0, .int .i64 0, .int .i64 0] 43)) (.cells #[.int .i64 ((l.length : Int) + 1), .int .i64 d, .int .i64 (now + life)] 43)) kR3.lt
        have kL := Blk.new (w2.alloc (.cells #[.int .i64 0, .int .i64 0, .int .i64 0] 43)) 43 #[.int .i64 ((l.length : Int) + 1), .int .i64 d, .int .i64 (now + life)]
        rw [World.size_alloc] at kL
        exact ⟨_, rfl, hb3, h.after hb3 (Nat.le_refl _), kL, kR4, kR2.lt⟩
      have HLO : Hid (lo ≤ w.heap.size) := hlo
      have HOK : Hid (OkT (l ++ [⟨(l.length : Int) + 1, d, now + life⟩])) := hok
      have HNR : Hid (¬ RfM G (.slice ao l.length c) w.heap.size ∧ ∀ q, w.heap.size ≤ q → ¬ RfM G (.slice ao l.length c) q) := ⟨hnR, fun q hq => h.fresh hq⟩
      have HGW : Hid (lo ≤ G ∧ (Value.slice ao l.length c).ownBlock ≠ some G ∧ G < w.heap.size) := ⟨h.gG, h.nG, h.head.lt⟩
      have hwr : wrap64 (now + life) = now + life := by unfold wrap64; omega
      clear hh h hlo hnR ho g1 g2 g3 h20 HB HB2 hok
      unfold leV leL noLE at *
      dsimp only at *
      go_enter Try.func22, Try.ntmps22
      go_wp2_with (first | (go_at_call 31; refine (HD _).mono ?_; rintro e w' ⟨rfl, rfl⟩) | (go_at_call 41; refine (HM _).mono ?_; rintro e w' ⟨rfl, rfl⟩) | (go_at_call 42; refine (HL _).mono ?_; rintro e w' ⟨rfl, rfl⟩))
      refine HOF.mono ?_
      rintro e w2 ⟨rfl, hb2⟩
      have c2 := HC0.out w2 hb2
      go_wp2_with fail
      obtain ⟨Wc, hWc, hBc, hTc, hLc, hRc, hlt2⟩ := HWC.out w2 hb2
      rw [← hWc]
      have c3 : Wc.cell? ⟨G, 0, none⟩ = some (.slice ao l.length c) := hTc.head.cell (j := 0) rfl
      have HF : Hid (∀ V, Below Wc.heap.size Wc V → V.cell? ⟨G, 0, none⟩ = some (.slice ao l.length c)) := fun V hV => (hV.cell (p := ⟨G, 0, none⟩) hTc.head.lt).trans c3
      have HBX : Hid (∀ V, Below Wc.heap.size Wc V → V.rangeAt (w2.heap.size + 1) 0 [.int .i64 ((l.length : Int) + 1), .int .i64 d, .int .i64 (now + life)]) := fun V hV => (hLc.below hV hLc.lt).range 0 _ (fun j u hu => by rw [Nat.zero_add]; simpa using hu)
      have HAP : Hid (∀ W1, Below Wc.heap.size Wc W1 → ∃ a3 n3 c3 W3, (∀ ty, (Builtin.append_ #[27, 27] ty #[.slice ao l.length c, .slice (some ⟨W1.heap.size, 0, none⟩) 1 1]).run Try.prog (W1.alloc (.cells #[.int .i64 ((l.length : Int) + 1), .int .i64 d, .int .i64 (now + life)] 43)) = .ok (.slice a3 n3 c3) W3) ∧ Blk W3 G 29 #[.slice ao l.length c] ∧ MidR Wc (W3.setCell ⟨G, 0, none⟩ (.slice a3 n3 c3)) lo G (.slice ao l.length c) (.slice a3 n3 c3) l ⟨(l.length : Int) + 1, d, now + life⟩) := fun W1 hW1 => midR hTc (Nat.le_trans HLO.out hBc.size) ⟨(l.length : Int) + 1, d, now + life⟩ W1 hW1
      have HFIN : Hid (∀ a3 n3 c3 W4, MidR Wc W4 lo G (.slice ao l.length c) (.slice a3 n3 c3) l ⟨(l.length : Int) + 1, d, now + life⟩ → Blk W4 w.heap.size 43 #[.int .i64 0, .int .i64 0, .int .i64 0] ∧ Blk W4 (w2.heap.size + 1) 43 #[.int .i64 ((l.length : Int) + 1), .int .i64 d, .int .i64 (now + life)] ∧ ∀ w9, W4.grownBy w9 (some w.heap.size) → ∃ v', RfT w9 lo G v' (l ++ [⟨(l.length : Int) + 1, d, now + life⟩]) ∧ (∀ q, v'.ownBlock = some q → (Value.slice ao l.length c).ownBlock = some q ∨ w.heap.size ≤ q) ∧ Chg (RfM G (.slice ao l.length c)) w w9) := fun a3 n3 c3 W4 hm => by
        have hs := hBc.size
        have hnv : ¬ RfM G (.slice a3 n3 c3) w.heap.size := fun e => by
          rcases e with e | e
          · exact HNR.out.1 (.inl e)
          · rcases hm.new _ e with k | k
            · exact HNR.out.1 (.inr k)
            · have := hRc.lt; omega
        have hnG : (Value.slice a3 n3 c3).ownBlock ≠ some G := fun e => by
          rcases hm.new _ e with k | k
          · exact HGW.out.2.1 k
          · have := HGW.out.2.2; omega
        refine ⟨hRc.chg hm.chg HNR.out.1, hLc.chg hm.chg (HNR.out.2 _ (by omega)), fun w9 hg9 => ?_⟩
        have hT4 : RfT W4 lo G (.slice a3 n3 c3) (l ++ [⟨(l.length : Int) + 1, d, now + life⟩]) := ⟨hm.head, hm.row, HOK.out, HGW.out.1, hnG⟩
        refine ⟨_, hT4.store hg9 hnv, fun q hq => (hm.new q hq).imp_right (fun k => by omega), ?_⟩
        have hcw : Chg (RfM G (.slice ao l.length c)) w W4 := (Chg.of_below (S := RfM G (.slice ao l.length c)) hBc (Nat.le_refl _)).trans (S' := RfM G (.slice ao l.length c)) hm.chg (fun _ _ e => e)
        refine ⟨hcw.1.trans (below_grown (Below.refl 0 _) hg9 (Nat.zero_le _) (fun _ _ => Nat.zero_le _)), fun k hk hn => ?_⟩
        rw [hg9.block k (Nat.lt_of_lt_of_le hk hcw.size) (fun e2 => by cases e2; omega), hcw.2 k hk hn]
      clear hWc hBc hTc hLc hRc c2 c3 HC0 HWC HOF hb2
      go_wp2_with fail
      refine held_begin (fun _ => True) (by kernel_rfl) ?_
      refine held_take 0 59 _ (.pointer (some ⟨G, 0, none⟩)) rfl rfl (by kernel_rfl) (by kernel_rfl) (by kernel_rfl) rfl trivial (fun _ _ => rfl) ?_
      simp only [Act.put, List.setIfInBounds_toArray, List.set_cons_succ, List.set_cons_zero]
      refine held_take 1 60 _ (.pointer (some ⟨G, 0, none⟩)) rfl rfl (by kernel_rfl) (by kernel_rfl) (by kernel_rfl) rfl trivial (fun _ _ => rfl) ?_
      simp only [Act.put, List.setIfInBounds_toArray, List.set_cons_succ, List.set_cons_zero]
      refine held_take 2 61 _ (.pointer (some ⟨G, 0, none⟩)) rfl rfl (by kernel_rfl) (by kernel_rfl) (by kernel_rfl) rfl trivial (fun _ _ => rfl) ?_
      simp only [Act.put, List.setIfInBounds_toArray, List.set_cons_succ, List.set_cons_zero]
      refine held_take 3 62 _ (.pointer (some ⟨G, 0, none⟩)) rfl rfl (by kernel_rfl) (by kernel_rfl) (by kernel_rfl) rfl trivial (fun _ _ => rfl) ?_
      simp only [Act.put, List.setIfInBounds_toArray, List.set_cons_succ, List.set_cons_zero]
      refine held_all2 4 5 (by kernel_rfl) ?_ ?_
      · refine op_value 4 63 _ (.slice ao l.length c) (Wc.drew) rfl rfl rfl (exec_loadc 27 _ rfl _ _ rfl (load_one 27 (fun _ => by kernel_rfl) (Wc.drew) _ _ _ (HF.out _ ((Below.refl _ _).drew)))) ⟨trivial, ?_⟩
        simp only [Act.put, List.setIfInBounds_toArray, List.set_cons_succ, List.set_cons_zero]
        refine held_all1 5 (by kernel_rfl) (op_value 5 64 _ (.agg #[.int .i64 ((l.length : Int) + 1), .int .i64 d, .int .i64 (now + life)]) (Wc.drew) rfl rfl rfl (exec_load 43 _ rfl (w2.heap.size + 1) 0 rfl [.int .i64 ((l.length : Int) + 1), .int .i64 d, .int .i64 (now + life)] _ (HBX.out _ ((Below.refl _ _).drew)) Try.underlying43 rfl info_le) ⟨trivial, ?_⟩)
        simp only [Act.put, List.setIfInBounds_toArray, List.set_cons_succ, List.set_cons_zero]
        refine held_all1 6 (by kernel_rfl) (op_value 6 65 _ (.slice (some ⟨(Wc.drew).heap.size, 0, none⟩) 1 1) ((Wc.drew).alloc (.cells #[.int .i64 ((l.length : Int) + 1), .int .i64 d, .int .i64 (now + life)] 43)) rfl rfl rfl (exec_rowE _ rfl ((l.length : Int) + 1) d (now + life) rfl) ⟨trivial, ?_⟩)
        simp only [Act.put, List.setIfInBounds_toArray, List.set_cons_succ, List.set_cons_zero]
        obtain ⟨a3, n3, c3, W3, happ, hk3, hmid⟩ := HAP.out (Wc.drew) ((Below.refl _ _).drew)
        refine held_all1 7 (by kernel_rfl) (op_value 7 66 _ (.slice a3 n3 c3) W3 rfl rfl rfl (exec_app (.tmp 63) (.tmp 65) 27 27 rfl (.slice ao l.length c) (.slice (some ⟨(Wc.drew).heap.size, 0, none⟩) 1 1) (.slice a3 n3 c3) rfl rfl happ) ⟨trivial, ?_⟩)
        simp only [Act.put, List.setIfInBounds_toArray, List.set_cons_succ, List.set_cons_zero]
        refine held_take 8 67 _ (.pointer (some ⟨G, 0, none⟩)) rfl rfl (by kernel_rfl) (by kernel_rfl) (by kernel_rfl) rfl trivial (fun _ _ => rfl) ?_
        simp only [Act.put, List.setIfInBounds_toArray, List.set_cons_succ, List.set_cons_zero]
        refine held_take 9 68 _ (.pointer (some ⟨G, 0, none⟩)) rfl rfl (by kernel_rfl) (by kernel_rfl) (by kernel_rfl) rfl trivial (fun _ _ => rfl) ?_
        simp only [Act.put, List.setIfInBounds_toArray, List.set_cons_succ, List.set_cons_zero]
        refine held_all1 10 (by kernel_rfl) (op_skip 10 _ (W3.setCell ⟨G, 0, none⟩ (.slice a3 n3 c3)) rfl rfl rfl (exec_storesE _ _ rfl G 0 a3 n3 c3 _ rfl rfl (hk3.cell (j := 0) rfl) (hk3.frozen 0)) ⟨trivial, ?_⟩)
        refine wpAnyH_done (by kernel_rfl) ?_ _
        refine NoPanic.normal ?_
        have HFX := HFIN.out a3 n3 c3 _ hmid
        generalize W3.setCell ⟨G, 0, none⟩ (.slice a3 n3 c3) = W4 at *
        clear happ hk3 hmid
        obtain ⟨hR4, hL4, HT4⟩ := HFX
        have HT4' : Hid _ := HT4
        have l0 : W4.cell? ⟨w2.heap.size + 1, 0, none⟩ = some (.int .i64 ((l.length : Int) + 1)) := hL4.cell (j := 0) rfl
        have l1 : W4.cell? ⟨w2.heap.size + 1, 1, none⟩ = some (.int .i64 d) := hL4.cell (j := 1) rfl
        have l2 : W4.cell? ⟨w2.heap.size + 1, 2, none⟩ = some (.int .i64 (now + life)) := hL4.cell (j := 2) rfl
        clear HT4 hL4
        go_wp2_with (first | (refine store_blk rfl 43 _ _ rfl rfl w.heap.size #[.int .i64 ((l.length : Int) + 1), .int .i64 d, .int .i64 (now + life)] rfl rfl 43 _ hR4 info_le rfl (by simp [Value.oneCell']) ?_; intro w9 kR9 hg9 _))
        refine bodyPost_ret (results_pairE Try.results22 _ _ w.heap.size 43 _ (0, 0) _ _ rfl kR9 Try.underlying43 rfl info_le rfl) rfl ?_
        exact ⟨rfl, HT4'.out w9 hg9⟩
      · refine op_value 5 64 _ (.agg #[.int .i64 ((l.length : Int) + 1), .int .i64 d, .int .i64 (now + life)]) (Wc.drew) rfl rfl rfl (exec_load 43 _ rfl (w2.heap.size + 1) 0 rfl [.int .i64 ((l.length : Int) + 1), .int .i64 d, .int .i64 (now + life)] _ (HBX.out _ ((Below.refl _ _).drew)) Try.underlying43 rfl info_le) ⟨trivial, ?_⟩
        simp only [Act.put, List.setIfInBounds_toArray, List.set_cons_succ, List.set_cons_zero]
        refine held_all2 4 6 (by kernel_rfl) ?_ ?_
        · refine op_value 4 63 _ (.slice ao l.length c) (Wc.drew) rfl rfl rfl (exec_loadc 27 _ rfl _ _ rfl (load_one 27 (fun _ => by kernel_rfl) (Wc.drew) _ _ _ (HF.out _ ((Below.refl _ _).drew)))) ⟨trivial, ?_⟩
          simp only [Act.put, List.setIfInBounds_toArray, List.set_cons_succ, List.set_cons_zero]
          refine held_all1 6 (by kernel_rfl) (op_value 6 65 _ (.slice (some ⟨(Wc.drew).heap.size, 0, none⟩) 1 1) ((Wc.drew).alloc (.cells #[.int .i64 ((l.length : Int) + 1), .int .i64 d, .int .i64 (now + life)] 43)) rfl rfl rfl (exec_rowE _ rfl ((l.length : Int) + 1) d (now + life) rfl) ⟨trivial, ?_⟩)
          simp only [Act.put, List.setIfInBounds_toArray, List.set_cons_succ, List.set_cons_zero]
          obtain ⟨a3, n3, c3, W3, happ, hk3, hmid⟩ := HAP.out (Wc.drew) ((Below.refl _ _).drew)
          refine held_all1 7 (by kernel_rfl) (op_value 7 66 _ (.slice a3 n3 c3) W3 rfl rfl rfl (exec_app (.tmp 63) (.tmp 65) 27 27 rfl (.slice ao l.length c) (.slice (some ⟨(Wc.drew).heap.size, 0, none⟩) 1 1) (.slice a3 n3 c3) rfl rfl happ) ⟨trivial, ?_⟩)
          simp only [Act.put, List.setIfInBounds_toArray, List.set_cons_succ, List.set_cons_zero]
          refine held_take 8 67 _ (.pointer (some ⟨G, 0, none⟩)) rfl rfl (by kernel_rfl) (by kernel_rfl) (by kernel_rfl) rfl trivial (fun _ _ => rfl) ?_
          simp only [Act.put, List.setIfInBounds_toArray, List.set_cons_succ, List.set_cons_zero]
          refine held_take 9 68 _ (.pointer (some ⟨G, 0, none⟩)) rfl rfl (by kernel_rfl) (by kernel_rfl) (by kernel_rfl) rfl trivial (fun _ _ => rfl) ?_
          simp only [Act.put, List.setIfInBounds_toArray, List.set_cons_succ, List.set_cons_zero]
          refine held_all1 10 (by kernel_rfl) (op_skip 10 _ (W3.setCell ⟨G, 0, none⟩ (.slice a3 n3 c3)) rfl rfl rfl (exec_storesE _ _ rfl G 0 a3 n3 c3 _ rfl rfl (hk3.cell (j := 0) rfl) (hk3.frozen 0)) ⟨trivial, ?_⟩)
          refine wpAnyH_done (by kernel_rfl) ?_ _
          refine NoPanic.normal ?_
          have HFX := HFIN.out a3 n3 c3 _ hmid
          generalize W3.setCell ⟨G, 0, none⟩ (.slice a3 n3 c3) = W4 at *
          clear happ hk3 hmid
          obtain ⟨hR4, hL4, HT4⟩ := HFX
          have HT4' : Hid _ := HT4
          have l0 : W4.cell? ⟨w2.heap.size + 1, 0, none⟩ = some (.int .i64 ((l.length : Int) + 1)) := hL4.cell (j := 0) rfl
          have l1 : W4.cell? ⟨w2.heap.size + 1, 1, none⟩ = some (.int .i64 d) := hL4.cell (j := 1) rfl
          have l2 : W4.cell? ⟨w2.heap.size + 1, 2, none⟩ = some (.int .i64 (now + life)) := hL4.cell (j := 2) rfl
          clear HT4 hL4
          go_wp2_with (first | (refine store_blk rfl 43 _ _ rfl rfl w.heap.size #[.int .i64 ((l.length : Int) + 1), .int .i64 d, .int .i64 (now + life)] rfl rfl 43 _ hR4 info_le rfl (by simp [Value.oneCell']) ?_; intro w9 kR9 hg9 _))
          refine bodyPost_ret (results_pairE Try.results22 _ _ w.heap.size 43 _ (0, 0) _ _ rfl kR9 Try.underlying43 rfl info_le rfl) rfl ?_
          exact ⟨rfl, HT4'.out w9 hg9⟩
        · refine op_value 6 65 _ (.slice (some ⟨(Wc.drew).heap.size, 0, none⟩) 1 1) ((Wc.drew).alloc (.cells #[.int .i64 ((l.length : Int) + 1), .int .i64 d, .int .i64 (now + life)] 43)) rfl rfl rfl (exec_rowE _ rfl ((l.length : Int) + 1) d (now + life) rfl) ⟨trivial, ?_⟩
          simp only [Act.put, List.setIfInBounds_toArray, List.set_cons_succ, List.set_cons_zero]
          refine held_all1 4 (by kernel_rfl) (op_value 4 63 _ (.slice ao l.length c) ((Wc.drew).alloc (.cells #[.int .i64 ((l.length : Int) + 1), .int .i64 d, .int .i64 (now + life)] 43)) rfl rfl rfl (exec_loadc 27 _ rfl _ _ rfl (load_one 27 (fun _ => by kernel_rfl) ((Wc.drew).alloc (.cells #[.int .i64 ((l.length : Int) + 1), .int .i64 d, .int .i64 (now + life)] 43)) _ _ _ (HF.out _ (low_new ((Below.refl _ _).drew) _)))) ⟨trivial, ?_⟩)
          simp only [Act.put, List.setIfInBounds_toArray, List.set_cons_succ, List.set_cons_zero]
          obtain ⟨a3, n3, c3, W3, happ, hk3, hmid⟩ := HAP.out (Wc.drew) ((Below.refl _ _).drew)
          refine held_all1 7 (by kernel_rfl) (op_value 7 66 _ (.slice a3 n3 c3) W3 rfl rfl rfl (exec_app (.tmp 63) (.tmp 65) 27 27 rfl (.slice ao l.length c) (.slice (some ⟨(Wc.drew).heap.size, 0, none⟩) 1 1) (.slice a3 n3 c3) rfl rfl happ) ⟨trivial, ?_⟩)
          simp only [Act.put, List.setIfInBounds_toArray, List.set_cons_succ, List.set_cons_zero]
          refine held_take 8 67 _ (.pointer (some ⟨G, 0, none⟩)) rfl rfl (by kernel_rfl) (by kernel_rfl) (by kernel_rfl) rfl trivial (fun _ _ => rfl) ?_
          simp only [Act.put, List.setIfInBounds_toArray, List.set_cons_succ, List.set_cons_zero]
          refine held_take 9 68 _ (.pointer (some ⟨G, 0, none⟩)) rfl rfl (by kernel_rfl) (by kernel_rfl) (by kernel_rfl) rfl trivial (fun _ _ => rfl) ?_
          simp only [Act.put, List.setIfInBounds_toArray, List.set_cons_succ, List.set_cons_zero]
          refine held_all1 10 (by kernel_rfl) (op_skip 10 _ (W3.setCell ⟨G, 0, none⟩ (.slice a3 n3 c3)) rfl rfl rfl (exec_storesE _ _ rfl G 0 a3 n3 c3 _ rfl rfl (hk3.cell (j := 0) rfl) (hk3.frozen 0)) ⟨trivial, ?_⟩)
          refine wpAnyH_done (by kernel_rfl) ?_ _
          refine NoPanic.normal ?_
          have HFX := HFIN.out a3 n3 c3 _ hmid
          generalize W3.setCell ⟨G, 0, none⟩ (.slice a3 n3 c3) = W4 at *
          clear happ hk3 hmid
          obtain ⟨hR4, hL4, HT4⟩ := HFX
          have HT4' : Hid _ := HT4
          have l0 : W4.cell? ⟨w2.heap.size + 1, 0, none⟩ = some (.int .i64 ((l.length : Int) + 1)) := hL4.cell (j := 0) rfl
          have l1 : W4.cell? ⟨w2.heap.size + 1, 1, none⟩ = some (.int .i64 d) := hL4.cell (j := 1) rfl
          have l2 : W4.cell? ⟨w2.heap.size + 1, 2, none⟩ = some (.int .i64 (now + life)) := hL4.cell (j := 2) rfl
          clear HT4 hL4
          go_wp2_with (first | (refine store_blk rfl 43 _ _ rfl rfl w.heap.size #[.int .i64 ((l.length : Int) + 1), .int .i64 d, .int .i64 (now + life)] rfl rfl 43 _ hR4 info_le rfl (by simp [Value.oneCell']) ?_; intro w9 kR9 hg9 _))
          refine bodyPost_ret (results_pairE Try.results22 _ _ w.heap.size 43 _ (0, 0) _ _ rfl kR9 Try.underlying43 rfl info_le rfl) rfl ?_
          exact ⟨rfl, HT4'.out w9 hg9⟩
end Go.Proofs.Ythlohlomefiebaa
