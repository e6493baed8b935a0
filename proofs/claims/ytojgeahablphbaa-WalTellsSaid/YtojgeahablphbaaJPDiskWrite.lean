/-
  What is proved here: the program's disk: writing a sector.
  Conditions: the disk lies in memory.
-/
import Derived.Test.YtojgeahablphbaaJPDiskRead
namespace Go.Proofs.Ytojgeahablphbaa
open Go.RowKit Go.Maps

theorem keyLit (k : Nat) (h : k ≤ 4096) : WideAt.IsKeyLit (.int .i64 (k : Int)) := keyI.key (key_int (k : Int) (by omega) (by omega))
theorem getD_set {α : Type} (l : List α) (k j : Nat) (x d : α) (hk : k < l.length) : (l.set k x).getD j d = if j = k then x else l.getD j d := by
  rw [List.getD_eq_getElem?_getD, List.getD_eq_getElem?_getD, List.getElem?_set]
  by_cases h : k = j
  · subst h; simp [hk]
  · simp [h, Ne.symm h]
theorem Holds5.put {D : DataW Unit} {s : DS} (h : Holds5 D s) (hM : IsMap D) {k : Nat} (hk : k ≤ 4096) (hl : k < s.dirt.length) (hn : k < s.now.length) (b : List UInt8) : Holds5 (D.put (.int .i64 (k : Int)) (.lit (.string (padS b)))) (putS s k b) := by
  refine ⟨fun q => ?_, fun j hj z => ?_⟩
  · unfold dirtB
    show _ = (decide (0 ≤ q) && (s.dirt.set k true).getD q.toNat false)
    by_cases e : q = (k : Int)
    · subst e
      rw [has_put_same hM (keyLit k hk), Int.toNat_natCast, getD_set _ _ _ _ _ hl]
      simp
    · rw [has_put_other (by simpa using e), h.has q]
      unfold dirtB
      by_cases h0 : 0 ≤ q
      · rw [getD_set _ _ _ _ _ hl, if_neg (by omega)]
      · simp [h0]
  · show _ = DataW.lit (.string ((s.now.set k (padS b)).getD j []))
    rw [getD_set _ _ _ _ _ hn]
    by_cases e : j = k
    · subst e
      rw [atKey_put_same hM (keyLit j hk), if_pos rfl]
    · rw [atKey_put_other (by simp; omega), if_neg e]
      refine h.is j ?_ z
      have hj' : (s.dirt.set k true)[j]? = some true := hj
      rwa [List.getElem?_set_ne (Ne.symm e)] at hj'
theorem cleanS.put {s : DS} (h : cleanS s) (k : Nat) (b : List UInt8) (hl : k < s.dirt.length) (hn : k < s.now.length) : cleanS (putS s k b) := fun j hj => by
  have hj' : (s.dirt.set k true)[j]? = some false := hj
  have e : j ≠ k := fun e => by subst e; rw [List.getElem?_set_self hl] at hj'; cases hj'
  rw [List.getElem?_set_ne (Ne.symm e)] at hj'
  show (s.now.set k (padS b)).getD j [] = _
  rw [getD_set _ _ _ _ _ hn, if_neg e]
  exact h j hj'
theorem PDisk.put {w w' : World} {L : PLay} {s : DS} (h : PDisk w L s) (hc : Chg (fun b => b = L.bm) w w') {k : Nat} (hk : k < L.n) (b : List UInt8) (hb : b.length ≤ 128) (hm : MapS w' L.bm (putS s k b)) : PDisk w' L (putS s k b) := by
  obtain ⟨xv, hx, hx2⟩ := h.head
  exact ⟨h.ok.put k b hb, h.lay, h.clean.put k b (by rw [h.ok.dirt]; exact hk) (by rw [h.ok.now]; exact hk), ⟨xv, hx.chg hc h.lay.gm, hx2.chg (hc.weaken (fun _ h => .inl (.inr (.inr h))))⟩, h.sure.chg hc h.lay.sm, hm, fun q hq => Nat.lt_of_lt_of_le (h.av q hq) hc.size⟩
theorem pad_splice128 (b : List UInt8) : (splice (secC (noughts 128)).toList 0 (b.map v8)).toArray = secC (padS b) := by
  unfold splice secC padS noughts
  congr 1
  rw [List.take_zero, List.nil_append, Nat.zero_add, List.toList_toArray, List.length_map, List.map_replicate, List.drop_replicate, List.map_append, List.map_replicate]
theorem pad_nil : padS [] = noughts 128 := rfl

theorem Seg.pos {W : World} {ab : Option Addr} {n c : Nat} {bs : List UInt8} (h : Seg W (.slice ab n c) bs) (h0 : 0 < (bs.map v8).length) : ∃ ad, ab = some ad ∧ ∀ (j : Nat) v, (bs.map v8)[j]? = some v → W.cell? (ad.add j) = some v := by
  rcases h with ⟨rfl, _⟩ | ⟨b, off, c', he, _, hr, _⟩
  · cases h0
  · injection he with he _ _
    exact ⟨⟨b, off, none⟩, he, hr.at⟩

set_option maxRecDepth 100000 in
set_option maxHeartbeats 2000000 in
theorem write_any (L : PLay) (s : DS) (k : Int) (x : Value) (bs : List UInt8) (w : World) (hD : PDisk w L s) (hS : Seg w x bs) (hx : 0 < bs.length → ∀ q, x.ownBlock = some q → ¬ L.T q) :
    Calls Try.prog 8 #[.pointer (some ⟨L.g, 0, none⟩), .int .i64 k, x] w fun e w' => e = .returned (.int .i64 (writeS s k bs).1) ∧ PDisk w' L (writeS s k bs).2 ∧ Chg L.T w w' := by
  have hnl := hD.ok.now
  obtain ⟨ab, cb, rfl⟩ := Seg.shapeD hS
  obtain ⟨R, hR⟩ : ∃ R, R = writeS s k bs := ⟨_, rfl⟩
  rw [← hR]
  unfold writeS at hR
  rw [hnl] at hR
  have HH : Hid (Calls Try.prog 16 #[.pointer (some ⟨L.g, 0, none⟩), .int .i64 k] w fun e w' => e = .returned (.bool (hasB L.n k)) ∧ w' = w) := has_any L s k w hD
  by_cases hbad : k < 0 ∨ (L.n : Int) ≤ k ∨ 128 < bs.length
  · rw [if_pos hbad] at hR
    have HR : Hid (R = (1, s)) := hR
    clear hR
    cases hb : hasB L.n k with
    | false =>
      rw [hb] at HH
      clear hbad hb
      go_enter Try.func8, Try.ntmps8
      go_wp2_with (go_at_call 16; refine HH.out.mono ?_; rintro e w1 ⟨rfl, rfl⟩)
      go_ret
      rw [HR.out]
      exact ⟨rfl, hD, Chg.refl _ _⟩
    | true =>
      have h2 : (128 : Int) < (bs.length : Int) := by
        unfold hasB at hb
        simp only [Bool.and_eq_true, decide_eq_true_eq] at hb
        omega
      rw [hb] at HH
      clear hbad hb
      go_enter Try.func8, Try.ntmps8
      go_wp2_with (go_at_call 16; refine HH.out.mono ?_; rintro e w1 ⟨rfl, rfl⟩)
      go_ret
      rw [HR.out]
      exact ⟨rfl, hD, Chg.refl _ _⟩
  · rw [if_neg hbad] at hR
    obtain ⟨m, rfl⟩ : ∃ m : Nat, k = (m : Int) := ⟨k.toNat, by omega⟩
    have hb : hasB L.n (m : Int) = true := by unfold hasB; simp; omega
    rw [hb] at HH
    have h2 : ¬ (128 : Int) < (bs.length : Int) := by omega
    have HM : Hid (Calls Try.prog 17 #[.pointer (some ⟨L.g, 0, none⟩)] w fun e w' => e = .returned (.int .i64 (mayS s).1) ∧ PDisk w' L (mayS s).2 ∧ Chg (fun b => b = L.g) w w') := meet_any L s w hD
    have hmx : m < L.n := by omega
    have hbx : bs.length ≤ 128 := by omega
    clear hbad hb
    generalize mayS s = M at *
    obtain ⟨e1, s1⟩ := M
    by_cases he : e1 ≠ 0
    · have HR : Hid (R = (e1, s1)) := by show _ = _; rw [hR, if_pos he]
      have he' : (e1 == 0) = false := by simpa using he
      clear hR he
      go_enter Try.func8, Try.ntmps8
      go_wp2_with (first | (go_at_call 16; refine HH.out.mono ?_; rintro e w1 ⟨rfl, rfl⟩) | (go_at_call 17; refine HM.out.mono ?_; rintro e w2 ⟨rfl, hD1, hc1⟩))
      go_ret
      rw [HR.out]
      exact ⟨rfl, hD1, hc1.weaken (fun _ h => .inl h)⟩
    · obtain rfl : e1 = 0 := by omega
      have HR : Hid (R = (0, putS s1 m bs)) := by show _ = _; rw [hR, if_neg he]; rfl
      clear hR he
      have hz := zeroSec
      have hi := Try.info60s
      have HP : Hid ((splice (secC (noughts 128)).toList 0 (bs.map v8)).toArray = secC (padS bs)) := pad_splice128 bs
      have HZ : Hid (0 + bs.length ≤ (secC (noughts 128)).size) := by show _ ≤ _; rw [secC_size _ (noughts_length _)]; omega
      have hpl := padS_length hbx
      have hiS : (Try.prog.info? 60).map (·.size) = some (secC (padS bs)).toList.length := by rw [Array.length_toList, secC_size _ hpl]; exact hi
      have hmn : Nat.min bs.length 128 = bs.length := Nat.min_eq_left hbx
      have hnew : ∀ W : World, (W.alloc (.cells (secC (noughts 128)) 60)).heap[W.heap.size]? = some (.cells (secC (noughts 128)).toList.toArray 60 (0, 0)) := fun W => by rw [Array.toArray_toList]; exact Blk.new W _ _
      have hsz1 : (Try.prog.info? 5).map (·.size) = some 1 := by kernel_rfl
      go_enter Try.func8, Try.ntmps8
      go_wp2_with (first | (go_at_call 16; refine HH.out.mono ?_; rintro e w1 ⟨rfl, rfl⟩) | (go_at_call 17; refine HM.out.mono ?_; rintro e w2 ⟨rfl, hD1, hc1⟩; have hS2 : Seg (w2.alloc (.cells (secC (noughts 128)) 60)) (.slice ab bs.length cb) bs := (hS.chg hc1 (fun h0 q hq e => hx h0 q hq (.inl e))).alloc _) | (have _s := hS2; refine wpList_copy_splice rfl (.tmp 23) (.tmp 24) 22 22 rfl 5 Try.underlying22 hsz1 _ _ _ _ _ _ rfl rfl w2.heap.size 0 (secC (noughts 128)).toList 60 (hnew w2) (bs.map v8) (by rw [List.length_map]; exact hmn.symm) (by exact fun h0 => ⟨rfl, hS2.pos h0⟩) (by rw [List.length_map, Array.length_toList]; exact HZ.out) (one8l bs) w2.heap.size w2 ((Below.refl _ w2).alloc (Nat.le_refl _) _) (Nat.le_refl _) ?_; intro w3 hb3 hB3))
      have hb4 : Blk w3 w2.heap.size 60 (secC (padS bs)) := Blk.of_eq hb3.out HP.out
      have hD3 := hD1.after hB3
      obtain ⟨xv, hh, hxs⟩ := hD3.head
      unfold PLay.head at hh
      have c1 := hh.cell (j := 1) rfl
      obtain ⟨mm, D, hown0, hH⟩ := hD3.map
      have hown := own_size hown0
      have hsz := hH.size hown0
      rw [hD3.ok.dirt] at hsz
      have hmax := hD3.lay.max
      have hrg : w3.rangeAt w2.heap.size 0 (secC (padS bs)).toList := hb4.range 0 _ (fun j v hv => by rw [Nat.zero_add, ← Array.getElem?_toList]; exact hv)
      refine region_tail 6 (by kernel_rfl) (by kernel_rfl) ?_
      simp only [List.take_succ_cons, List.take_zero, List.drop_succ_cons, List.drop_zero]
      repeat still_step
      refine still_load rfl 60 _ rfl w2.heap.size 0 rfl (secC (padS bs)).toList _ hrg Try.underlying60 rfl hiS ?_
      refine wpStill_nil ?_
      go_wp2_with (at_mapUpdate; refine wpList_mapUpdate_own _ rfl _ _ _ 50 rfl 3 60 keyI Try.underlying50 secR L.bm _ D rfl hown.drew (by unfold maxLen; omega) _ _ _ rfl rfl (key_int (m : Int) (by omega) (by omega)) (.lit (.string (padS bs))) [] (secR_mk _ hpl) ?_; intro w5 hown5 hg5)
      go_ret
      rw [HR.out]
      have hc5 : Chg (fun b => b = L.bm) w3 w5 := Chg.trans (S' := fun b => b = L.bm) ((Chg.refl _ w3).drew) (Chg.of_grown hg5 (fun k hk => (Option.some.inj hk).symm)) (fun _ _ h => h)
      have hP := hH.put hown.isMap (k := m) (by omega) (by rw [hD3.ok.dirt]; exact hmx) (by rw [hD3.ok.now]; exact hmx) bs
      refine ⟨rfl, hD3.put hc5 hmx bs hbx ⟨_, _, hown5, hP⟩, ?_⟩
      exact ((hc1.weaken (fun _ h => .inl h)).trans (S' := L.T) (Chg.of_below hB3 (Nat.le_refl _)) (fun _ _ h => h)).trans (S' := fun b => b = L.bm) hc5 (fun _ _ h => .inr (.inr h))
end Go.Proofs.Ytojgeahablphbaa
