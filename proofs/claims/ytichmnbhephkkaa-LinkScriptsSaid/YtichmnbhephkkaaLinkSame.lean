/-
  What is proved here: the document's SameAll says that the same packets, told twice, are the same.
  Conditions: they lie in memory.
-/
import Derived.Test.YtichmnbhephkkaaRefLink
namespace Go.Proofs.Ytichmnbhephkkaa
open Go.RowKit

set_option maxRecDepth 100000 in
set_option maxHeartbeats 4000000 in
theorem same13_self (p : KP) (ax ay : Option Addr) (cx cy : Nat) (w : World) (hx : Seg w (.slice ax p.b.length cx) p.b) (hy : Seg w (.slice ay p.b.length cy) p.b) :
    Calls Try.prog 25 #[kpV p (.slice ax p.b.length cx), kpV p (.slice ay p.b.length cy)] w fun e w' => e = .returned (.bool true) ∧ Below w.heap.size w w' := by
  unfold kpV kpL
  have hB2 : Below w.heap.size w ((w.alloc (.cells #[.int .i64 p.k, .int .i64 p.f, .int .i64 p.t, .int .i64 p.s, .int .i64 p.a, .slice ax p.b.length cx] 34)).alloc (.cells #[.int .i64 p.k, .int .i64 p.f, .int .i64 p.t, .int .i64 p.s, .int .i64 p.a, .slice ay p.b.length cy] 34)) := ((Below.refl _ _).alloc (Nat.le_refl _) _).alloc (by simp) _
  have k5 := seg_stringD (hx.below hB2 (Nat.le_refl _)) 9 Try.underlying9
  have k6 := seg_stringD (hy.below hB2 (Nat.le_refl _)) 9 Try.underlying9
  have hq := str_beq p.b p.b
  have hd : decide (p.b = p.b) = true := decide_eq_true rfl
  rw [hd] at hq
  generalize (⟨p.b.toArray⟩ : ByteArray) = BX at *
  have h0 : (p.k == p.k) = true := beq_self_eq_true _
  have h1 : (p.f == p.f) = true := beq_self_eq_true _
  have h2 : (p.t == p.t) = true := beq_self_eq_true _
  have h3 : (p.s == p.s) = true := beq_self_eq_true _
  have h4 : (p.a == p.a) = true := beq_self_eq_true _
  have hq' : (BX.toList == BX.toList) = true := hq
  clear hx hy hq hd
  go_enter Try.func25, Try.ntmps25
  go_wp2
  go_ret
  exact ⟨rfl, hB2⟩
set_option maxRecDepth 100000 in
set_option maxHeartbeats 4000000 in
theorem sameAll_self (w : World) (T T' : Nat → Prop) (lo lo' : Nat) (u u' : Value) (ps : List KP) (hP : PksO w T lo u ps) (hP' : PksO w T' lo' u' ps) (hm : ps.length ≤ 1000) :
    Calls Try.prog 10 #[u, u'] w fun e w' => e = .returned (.bool true) ∧ Below w.heap.size w w' := by
  obtain ⟨au, cu, rfl⟩ := hP.shape
  obtain ⟨av, cv, rfl⟩ := hP'.shape
  obtain ⟨len, hlen⟩ : ∃ len, len = ps.length := ⟨_, rfl⟩
  have HB0 : Below w.heap.size w w := Below.refl _ _
  have HAT : Hid (∀ k, k < len → ∀ V, Below w.heap.size w V → ∃ (p : KP) (b off c : Nat) (a : Option Addr) (cc b' off' c' : Nat) (a' : Option Addr) (cc' : Nat), Value.slice au len cu = .slice (some ⟨b, off, none⟩) len c ∧ Value.slice av len cv = .slice (some ⟨b', off', none⟩) len c' ∧
      (∀ V', Below V.heap.size V V' → V'.rangeAt b (off + k * 6) (kpL p (.slice a p.b.length cc)) ∧ V'.rangeAt b' (off' + k * 6) (kpL p (.slice a' p.b.length cc'))) ∧ Seg V (.slice a p.b.length cc) p.b ∧ Seg V (.slice a' p.b.length cc') p.b) := by
    intro k hk V hV
    obtain ⟨b, off, c, a, cc, e1, hbl, hcell, hs⟩ := (hP.after hV).at (List.getElem?_eq_getElem (by omega : k < ps.length))
    obtain ⟨b', off', c', a', cc', e1', hbl', hcell', hs'⟩ := (hP'.after hV).at (List.getElem?_eq_getElem (by omega : k < ps.length))
    rw [← hlen] at e1 e1'
    refine ⟨_, b, off, c, a, cc, b', off', c', a', cc', e1, e1', fun V' hV' => ⟨fun j x hx => ?_, fun j x hx => ?_⟩, hs.1, hs'.1⟩
    · rw [Nat.add_assoc]
      exact (hV'.cell (p := ⟨b, off + (k * 6 + j), none⟩) hbl).trans (hcell j x hx)
    · rw [Nat.add_assoc]
      exact (hV'.cell (p := ⟨b', off' + (k * 6 + j), none⟩) hbl').trans (hcell' j x hx)
  rw [← hlen]
  have hl : len ≤ 1000 := by omega
  clear hP hP' hm hlen
  go_enter Try.func10, Try.ntmps10
  go_wp2_with fail
  go_loopw [5] (fun i wr => ∃ k : Nat, i = .int .i64 (k : Int) ∧ k ≤ len ∧ Below w.heap.size w wr) (fun i _ => len - (intOf i).toNat)
  case atStart => exact ⟨0, rfl, Nat.zero_le _, HB0⟩
  case round =>
    obtain ⟨k, rfl, hk, hB⟩ := hrel
    by_cases hlt : k < len
    · have i1 : (k : Int) < (len : Int) := by omega
      obtain ⟨p, b, off, c, a, cc, b', off', c', a', cc', e1, e1', hat, hs, hs'⟩ := HAT.out k hlt wr hB
      cases e1
      cases e1'
      have HSM : Hid (∀ V, Below wr.heap.size wr V → Calls Try.prog 25 #[.agg #[.int .i64 p.k, .int .i64 p.f, .int .i64 p.t, .int .i64 p.s, .int .i64 p.a, .slice a p.b.length cc], .agg #[.int .i64 p.k, .int .i64 p.f, .int .i64 p.t, .int .i64 p.s, .int .i64 p.a, .slice a' p.b.length cc']] V fun e w' => e = .returned (.bool true) ∧ Below V.heap.size V w') := fun V hV => same13_self p a a' cc cc' V (hs.below hV (Nat.le_refl _)) (hs'.below hV (Nat.le_refl _))
      have HIX : Hid (∀ V, (Instr.indexAt 38 (.slice (some ⟨b, off, none⟩) len cu) (.int .i64 (k : Int))).run Try.prog V = .ok (.pointer (some ⟨b, off + k * 6, none⟩)) V) := fun V => index_pks b off len cu k hlt V
      have HIY : Hid (∀ V, (Instr.indexAt 38 (.slice (some ⟨b', off', none⟩) len cv) (.int .i64 (k : Int))).run Try.prog V = .ok (.pointer (some ⟨b', off' + k * 6, none⟩)) V) := fun V => index_pks b' off' len cv k hlt V
      have hS0 := hat wr.drew ((Below.refl _ _).drew)
      have hd0 : Below wr.heap.size wr wr.drew := (Below.refl _ _).drew
      have hwk : IntKind.i64.wrap ((k : Int) + 1) = (k : Int) + 1 := by rw [IntKind.wrap_i64]; omega
      have HAT2 : Hid (∀ V', Below wr.heap.size wr V' → V'.rangeAt b (off + k * 6) (kpL p (.slice a p.b.length cc)) ∧ V'.rangeAt b' (off' + k * 6) (kpL p (.slice a' p.b.length cc'))) := hat
      clear hat hs hs'
      go_wp2_with fail
      refine held_begin (fun V => V.rangeAt b (off + k * 6) (kpL p (.slice a p.b.length cc)) ∧ V.rangeAt b' (off' + k * 6) (kpL p (.slice a' p.b.length cc'))) (by kernel_rfl) ?_
      refine held_take 0 18 _ (.slice (some ⟨b, off, none⟩) len cu) rfl rfl (by kernel_rfl) (by kernel_rfl) (by kernel_rfl) rfl hS0 (fun _ _ => rfl) ?_
      simp only [Act.put, List.setIfInBounds_toArray, List.set_cons_succ, List.set_cons_zero]
      refine held_take 1 19 _ (.int .i64 (k : Int)) rfl rfl (by kernel_rfl) (by kernel_rfl) (by kernel_rfl) rfl hS0 (fun _ _ => rfl) ?_
      simp only [Act.put, List.setIfInBounds_toArray, List.set_cons_succ, List.set_cons_zero]
      refine held_take 2 20 _ (.pointer (some ⟨b, off + k * 6, none⟩)) rfl rfl (by kernel_rfl) (by kernel_rfl) (by kernel_rfl) rfl hS0 (fun V _ => exec_indexat 38 _ _ rfl (.slice (some ⟨b, off, none⟩) len cu) (.int .i64 (k : Int)) _ rfl rfl (HIX.out V)) ?_
      simp only [Act.put, List.setIfInBounds_toArray, List.set_cons_succ, List.set_cons_zero]
      refine held_take 3 21 _ (.agg #[.int .i64 p.k, .int .i64 p.f, .int .i64 p.t, .int .i64 p.s, .int .i64 p.a, .slice a p.b.length cc]) rfl rfl (by kernel_rfl) (by kernel_rfl) (by kernel_rfl) rfl hS0 (fun V hV => exec_load 34 _ rfl b (off + k * 6) rfl _ _ hV.1 Try.underlying34 rfl info_packet) ?_
      simp only [Act.put, List.setIfInBounds_toArray, List.set_cons_succ, List.set_cons_zero]
      refine held_take 4 22 _ (.slice (some ⟨b', off', none⟩) len cv) rfl rfl (by kernel_rfl) (by kernel_rfl) (by kernel_rfl) rfl hS0 (fun _ _ => rfl) ?_
      simp only [Act.put, List.setIfInBounds_toArray, List.set_cons_succ, List.set_cons_zero]
      refine held_take 5 23 _ (.int .i64 (k : Int)) rfl rfl (by kernel_rfl) (by kernel_rfl) (by kernel_rfl) rfl hS0 (fun _ _ => rfl) ?_
      simp only [Act.put, List.setIfInBounds_toArray, List.set_cons_succ, List.set_cons_zero]
      refine held_take 6 24 _ (.pointer (some ⟨b', off' + k * 6, none⟩)) rfl rfl (by kernel_rfl) (by kernel_rfl) (by kernel_rfl) rfl hS0 (fun V _ => exec_indexat 38 _ _ rfl (.slice (some ⟨b', off', none⟩) len cv) (.int .i64 (k : Int)) _ rfl rfl (HIY.out V)) ?_
      simp only [Act.put, List.setIfInBounds_toArray, List.set_cons_succ, List.set_cons_zero]
      refine held_take 7 25 _ (.agg #[.int .i64 p.k, .int .i64 p.f, .int .i64 p.t, .int .i64 p.s, .int .i64 p.a, .slice a' p.b.length cc']) rfl rfl (by kernel_rfl) (by kernel_rfl) (by kernel_rfl) rfl hS0 (fun V hV => exec_load 34 _ rfl b' (off' + k * 6) rfl _ _ hV.2 Try.underlying34 rfl info_packet) ?_
      simp only [Act.put, List.setIfInBounds_toArray, List.set_cons_succ, List.set_cons_zero]
      refine held_all1 8 (by kernel_rfl) (op_call 8 26 _ 25 #[.agg #[.int .i64 p.k, .int .i64 p.f, .int .i64 p.t, .int .i64 p.s, .int .i64 p.a, .slice a p.b.length cc], .agg #[.int .i64 p.k, .int .i64 p.f, .int .i64 p.t, .int .i64 p.s, .int .i64 p.a, .slice a' p.b.length cc']] rfl rfl rfl (exec_two8 25 _ _ _ rfl _ _ rfl rfl Try.call25) ((HSM.out wr.drew hd0).mono ?_))
      rintro e W1 ⟨rfl, hb0⟩
      have hb1 : Below wr.heap.size wr W1 := hd0.trans hb0
      have hS1 := HAT2.out W1 hb1
      refine ⟨_, rfl, hS1, ?_⟩
      simp only [Act.put, List.setIfInBounds_toArray, List.set_cons_succ, List.set_cons_zero]
      refine held_all1 9 (by kernel_rfl) (op_value 9 6 _ (.bool true) W1 rfl rfl rfl (rfl) ⟨hS1, ?_⟩)
      simp only [Act.put, List.setIfInBounds_toArray, List.set_cons_succ, List.set_cons_zero]
      refine wpAnyH_done (by kernel_rfl) ?_ _
      refine NoPanic.normal ?_
      have hB1 : Below w.heap.size w W1 := hB.trans (hb1.mono hB.size)
      clear HAT2 HSM HIX HIY hS0 hS1 hb1 hd0
      go_wp2
      go_roundw
      case rel => exact ⟨k + 1, by go_num, hlt, hB1⟩
      case measure => simp [intOf]; omega
    · have i1 : ¬ (k : Int) < (len : Int) := by omega
      go_wp2
      go_ret
      exact ⟨rfl, hB⟩
end Go.Proofs.Ytichmnbhephkkaa
