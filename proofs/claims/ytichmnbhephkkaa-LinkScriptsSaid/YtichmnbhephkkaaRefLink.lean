/-
  What is proved here: the document's link: its bare packets, what it does with a peer that is new, and its Send.
  Conditions: the link lies in memory as laws hold it.
-/
import Derived.Test.YtichmnbhephkkaaLinkAwake
import Derived.Test.YtichmnbhephkkaaBlkMid
namespace Go.Proofs.Ytichmnbhephkkaa
open Go.RowKit

abbrev LR := LK 47 rlinkC
theorem rlinkC_cells {w : World} {G : Nat} {s : KS} {v : Value} (h : Blk w G 47 (rlinkC s v)) : w.cell? ⟨G, 0, none⟩ = some (.int .i64 s.ep) ∧ w.cell? ⟨G, 1, none⟩ = some (.int .i64 s.pe) ∧ w.cell? ⟨G, 2, none⟩ = some v ∧ w.cell? ⟨G, 3, none⟩ = some (.int .i64 (s.fi : Int)) ∧ w.cell? ⟨G, 4, none⟩ = some (.int .i64 (s.se : Int)) ∧ w.cell? ⟨G, 5, none⟩ = some (.int .i64 (s.ne : Int)) ∧ w.cell? ⟨G, 6, none⟩ = some (.int .i64 (s.ti : Int)) :=
  ⟨h.cell (j := 0) rfl, h.cell (j := 1) rfl, h.cell (j := 2) rfl, h.cell (j := 3) rfl, h.cell (j := 4) rfl, h.cell (j := 5) rfl, h.cell (j := 6) rfl⟩
theorem new_lr {w0 W : World} {G : Nat} {e : Int} (h1 : 1 ≤ e) (h2 : e ≤ 1073741824) (hG : w0.heap.size ≤ G) (hk : Blk W G 47 (rlinkC (newK e) (.slice none 0 0))) : LR W (TG G) w0.heap.size G (.slice none 0 0) (newK e) :=
  ⟨hk, RowsO.nil _ _ _, newK_ok h1 h2, rfl, (fun q hq => by cases hq), (fun q (hq : q = G) => by subst hq; exact hk.lt), (fun q (hq : q = G) => by subst hq; exact hG), (by intro e; cases e)⟩
set_option maxRecDepth 100000 in
theorem bareR_any (G : Nat) (s : KS) (v : Value) (k : Int) (w : World) (hK : Blk w G 47 (rlinkC s v)) : Calls Try.prog 29 #[.pointer (some ⟨G, 0, none⟩), .int .i64 k] w fun r w' => r = .returned (kpV (bareK s k) (.slice none 0 0)) ∧ Below w.heap.size w w' := by
  have c0 : w.cell? ⟨G, 0, none⟩ = some (.int .i64 s.ep) := hK.cell (j := 0) rfl
  have c1 : w.cell? ⟨G, 1, none⟩ = some (.int .i64 s.pe) := hK.cell (j := 1) rfl
  have hGl := hK.lt
  have hb := below_new w (.cells #[.int .i64 0, .int .i64 0, .int .i64 0, .int .i64 0, .int .i64 0, .slice none 0 0] 34)
  have kR := Blk.new w 34 #[.int .i64 0, .int .i64 0, .int .i64 0, .int .i64 0, .int .i64 0, .slice none 0 0]
  have hS0 : (fun V : World => V.cell? ⟨G, 0, none⟩ = some (.int .i64 s.ep) ∧ V.cell? ⟨G, 1, none⟩ = some (.int .i64 s.pe)) (w.alloc (.cells #[.int .i64 0, .int .i64 0, .int .i64 0, .int .i64 0, .int .i64 0, .slice none 0 0] 34)).drew := ⟨(hb.cell (p := ⟨G, 0, none⟩) hGl).trans c0, (hb.cell (p := ⟨G, 1, none⟩) hGl).trans c1⟩
  clear hK
  go_enter Try.func29, Try.ntmps29
  go_wp2_with fail
  refine held_begin (fun V => V.cell? ⟨G, 0, none⟩ = some (.int .i64 s.ep) ∧ V.cell? ⟨G, 1, none⟩ = some (.int .i64 s.pe)) (by kernel_rfl) ?_
  refine held_take 0 5 _ (.int .i64 k) rfl rfl (by kernel_rfl) (by kernel_rfl) (by kernel_rfl) rfl hS0 (fun _ _ => rfl) ?_
  simp only [Act.put, List.setIfInBounds_toArray, List.set_cons_succ, List.set_cons_zero]
  refine held_take 1 6 _ (.pointer (some ⟨G, 0, none⟩)) rfl rfl (by kernel_rfl) (by kernel_rfl) (by kernel_rfl) rfl hS0 (fun _ _ => rfl) ?_
  simp only [Act.put, List.setIfInBounds_toArray, List.set_cons_succ, List.set_cons_zero]
  refine held_take 2 7 _ (.pointer (some ⟨G, 0, none⟩)) rfl rfl (by kernel_rfl) (by kernel_rfl) (by kernel_rfl) rfl hS0 (fun _ _ => rfl) ?_
  simp only [Act.put, List.setIfInBounds_toArray, List.set_cons_succ, List.set_cons_zero]
  refine held_take 3 8 _ (.pointer (some ⟨G, 0, none⟩)) rfl rfl (by kernel_rfl) (by kernel_rfl) (by kernel_rfl) rfl hS0 (fun _ _ => rfl) ?_
  simp only [Act.put, List.setIfInBounds_toArray, List.set_cons_succ, List.set_cons_zero]
  refine held_take 4 9 _ (.int .i64 s.ep) rfl rfl (by kernel_rfl) (by kernel_rfl) (by kernel_rfl) rfl hS0 (fun V hV => exec_loadc 3 _ rfl _ _ rfl (load_one 3 (fun _ => by kernel_rfl) V _ _ _ hV.1)) ?_
  simp only [Act.put, List.setIfInBounds_toArray, List.set_cons_succ, List.set_cons_zero]
  refine held_take 5 10 _ (.pointer (some ⟨G, 0, none⟩)) rfl rfl (by kernel_rfl) (by kernel_rfl) (by kernel_rfl) rfl hS0 (fun _ _ => rfl) ?_
  simp only [Act.put, List.setIfInBounds_toArray, List.set_cons_succ, List.set_cons_zero]
  refine held_take 6 11 _ (.pointer (some ⟨G, 0, none⟩)) rfl rfl (by kernel_rfl) (by kernel_rfl) (by kernel_rfl) rfl hS0 (fun _ _ => rfl) ?_
  simp only [Act.put, List.setIfInBounds_toArray, List.set_cons_succ, List.set_cons_zero]
  refine held_take 7 12 _ (.pointer (some ⟨G, 1, none⟩)) rfl rfl (by kernel_rfl) (by kernel_rfl) (by kernel_rfl) rfl hS0 (fun _ _ => rfl) ?_
  simp only [Act.put, List.setIfInBounds_toArray, List.set_cons_succ, List.set_cons_zero]
  refine held_take 8 13 _ (.int .i64 s.pe) rfl rfl (by kernel_rfl) (by kernel_rfl) (by kernel_rfl) rfl hS0 (fun V hV => exec_loadc 3 _ rfl _ _ rfl (load_one 3 (fun _ => by kernel_rfl) V _ _ _ hV.2)) ?_
  simp only [Act.put, List.setIfInBounds_toArray, List.set_cons_succ, List.set_cons_zero]
  refine held_take 9 14 _ (.agg #[.int .i64 k, .int .i64 s.ep, .int .i64 s.pe, .int .i64 0, .int .i64 0, .slice none 0 0]) rfl rfl (by kernel_rfl) (by kernel_rfl) (by kernel_rfl) rfl hS0 (fun V _ => exec_buildK 34 #[(0, .tmp 5), (1, .tmp 9), (2, .tmp 13)] rfl _ (built_packet k s.ep s.pe)) ?_
  simp only [Act.put, List.setIfInBounds_toArray, List.set_cons_succ, List.set_cons_zero]
  refine held_all1 10 (by kernel_rfl) (op_row 10 _ rfl rfl rfl 34 _ _ rfl w.heap.size #[.int .i64 k, .int .i64 s.ep, .int .i64 s.pe, .int .i64 0, .int .i64 0, .slice none 0 0] rfl rfl 34 _ kR.drew info_packet rfl (by simp [Value.oneCell']) ?_)
  intro W1 kR1 hg1 _
  have hb1 : Below w.heap.size w W1 := below_grown (Below.drew (below_new w _)) hg1 (by simp) (fun q hq => by cases hq; exact Nat.le_refl _)
  refine ⟨⟨(hb1.cell (p := ⟨G, 0, none⟩) hGl).trans c0, (hb1.cell (p := ⟨G, 1, none⟩) hGl).trans c1⟩, ?_⟩
  refine wpAnyH_done (by kernel_rfl) ?_ _
  refine NoPanic.normal ?_
  go_wp2
  refine bodyPost_ret (v := kpV (bareK s k) (.slice none 0 0)) (results_cell_row Try.results29 _ _ w.heap.size 34 _ (0, 0) _ rfl kR1 Try.underlying34 rfl info_packet) rfl ⟨rfl, hb1⟩
set_option maxRecDepth 100000 in
theorem anewR_any (G : Nat) (s : KS) (v : Value) (p : Int) (w : World) (hK : Blk w G 47 (rlinkC s v)) : Calls Try.prog 36 #[.pointer (some ⟨G, 0, none⟩), .int .i64 p] w fun r w' => r = .returned (.tuple #[]) ∧ Blk w' G 47 (rlinkC ⟨s.ep, p, 1, 0, 1, 0, s.wt⟩ v) ∧ Chg (fun q => q = G) w w' := by
  have k1 := hK.set 1 (.int .i64 p)
  have k2 := k1.set 5 (.int .i64 1)
  have k3 := k2.set 3 (.int .i64 1)
  have k4 := k3.set 4 (.int .i64 0)
  have k5 := k4.set 6 (.int .i64 0)
  have f0 := hK.frozen 1
  have f1 := k1.frozen 5
  have f2 := k2.frozen 3
  have f3 := k3.frozen 4
  have f4 := k4.frozen 6
  have c1 : w.cell? ⟨G, 1, none⟩ = some (.int .i64 s.pe) := hK.cell (j := 1) rfl
  have c5 : (w.setCell ⟨G, 1, none⟩ (.int .i64 p)).cell? ⟨G, 5, none⟩ = some (.int .i64 (s.ne : Int)) := k1.cell (j := 5) rfl
  have c3 : ((w.setCell ⟨G, 1, none⟩ (.int .i64 p)).setCell ⟨G, 5, none⟩ (.int .i64 1)).cell? ⟨G, 3, none⟩ = some (.int .i64 (s.fi : Int)) := k2.cell (j := 3) rfl
  have c4 : (((w.setCell ⟨G, 1, none⟩ (.int .i64 p)).setCell ⟨G, 5, none⟩ (.int .i64 1)).setCell ⟨G, 3, none⟩ (.int .i64 1)).cell? ⟨G, 4, none⟩ = some (.int .i64 (s.se : Int)) := k3.cell (j := 4) rfl
  have c6 : ((((w.setCell ⟨G, 1, none⟩ (.int .i64 p)).setCell ⟨G, 5, none⟩ (.int .i64 1)).setCell ⟨G, 3, none⟩ (.int .i64 1)).setCell ⟨G, 4, none⟩ (.int .i64 0)).cell? ⟨G, 6, none⟩ = some (.int .i64 (s.ti : Int)) := k4.cell (j := 6) rfl
  have hc : Chg (fun q => q = G) w (((((w.setCell ⟨G, 1, none⟩ (.int .i64 p)).setCell ⟨G, 5, none⟩ (.int .i64 1)).setCell ⟨G, 3, none⟩ (.int .i64 1)).setCell ⟨G, 4, none⟩ (.int .i64 0)).setCell ⟨G, 6, none⟩ (.int .i64 0)) := (((((Chg.refl (fun q => q = G) w).setCell G 1 _ (fun _ => rfl)).setCell G 5 _ (fun _ => rfl)).setCell G 3 _ (fun _ => rfl)).setCell G 4 _ (fun _ => rfl)).setCell G 6 _ (fun _ => rfl)
  have HK : Hid (Blk (((((w.setCell ⟨G, 1, none⟩ (.int .i64 p)).setCell ⟨G, 5, none⟩ (.int .i64 1)).setCell ⟨G, 3, none⟩ (.int .i64 1)).setCell ⟨G, 4, none⟩ (.int .i64 0)).setCell ⟨G, 6, none⟩ (.int .i64 0)) G 47 (rlinkC ⟨s.ep, p, 1, 0, 1, 0, s.wt⟩ v)) := k5.of_eq rfl
  have HCH : Hid (Chg (fun q => q = G) w (((((w.setCell ⟨G, 1, none⟩ (.int .i64 p)).setCell ⟨G, 5, none⟩ (.int .i64 1)).setCell ⟨G, 3, none⟩ (.int .i64 1)).setCell ⟨G, 4, none⟩ (.int .i64 0)).setCell ⟨G, 6, none⟩ (.int .i64 0))) := hc
  clear k1 k2 k3 k4 k5 hK hc
  go_enter Try.func36, Try.ntmps36
  go_wp2
  refine bodyPost_end (results_none rfl _ _ _) rfl ?_
  exact ⟨rfl, HK.out, HCH.out⟩
set_option maxRecDepth 100000 in
set_option maxHeartbeats 4000000 in
theorem sendR_any (w : World) (T : Nat → Prop) (lo G : Nat) (v : Value) (s : KS) (x : Value) (bs : List UInt8) (h : LR w T lo G v s) (hlo : lo ≤ w.heap.size) (hS : Seg w x bs) (hb : bs.length ≤ 1000000) :
    Calls Try.prog 14 #[.pointer (some ⟨G, 0, none⟩), x] w fun e w' => ∃ v', e = .returned (.int .i64 (sendK s bs).1) ∧ LR w' (fun q => T q ∨ v'.ownBlock = some q) lo G v' (sendK s bs).2 ∧ (v'.ownBlock = v.ownBlock ∨ ∀ q, v'.ownBlock = some q → w.heap.size ≤ q) ∧ Chg (LM G v) w w' := by
  obtain ⟨ax, cx, rfl⟩ := hS.shapeD
  obtain ⟨av, cv, rfl⟩ := h.row.shape
  obtain ⟨c0, c1, c2, c3, c4, c5, c6⟩ := rlinkC_cells h.head
  clear c0 c1 c3 c4 c5 c6
  have hT0 : ∀ q, (T q ∨ (Value.slice av s.wt.length cv).ownBlock = some q) → T q := fun q hq => by
    rcases hq with e | e
    · exact e
    · exact h.tv q e
  have hsame : LR w (fun q => T q ∨ (Value.slice av s.wt.length cv).ownBlock = some q) lo G (.slice av s.wt.length cv) s := h.grow (fun q e => .inl e) (fun q hq => h.lt q (hT0 q hq)) (fun q hq => h.ge q (hT0 q hq)) (fun i u r vs _ _ _ hs => hs.grow (fun q hq => .inl (hT0 q hq)))
  unfold sendK
  by_cases h1 : 1500 < bs.length
  · rw [if_pos h1]
    have d1 : decide ((1500 : Int) < (bs.length : Int)) = true := decide_eq_true (by omega)
    clear h1 hb hS h
    go_enter Try.func14, Try.ntmps14
    go_wp2
    go_ret
    exact ⟨_, rfl, hsame, .inl rfl, Chg.refl _ _⟩
  rw [if_neg h1]
  have d1 : decide ((1500 : Int) < (bs.length : Int)) = false := decide_eq_false (by omega)
  by_cases h2 : s.wt.length = 16
  · rw [if_pos h2]
    have d2 : decide ((16 : Int) ≤ (s.wt.length : Int)) = true := decide_eq_true (by omega)
    clear h1 h2 hb hS h
    go_enter Try.func14, Try.ntmps14
    go_wp2
    go_ret
    exact ⟨_, rfl, hsame, .inl rfl, Chg.refl _ _⟩
  rw [if_neg h2]
  have hlen : s.wt.length < 16 := by have := h.ok.wt; omega
  have d2 : decide ((16 : Int) ≤ (s.wt.length : Int)) = false := decide_eq_false (by omega)
  have hok := sendK_ok h.ok bs
  have hsk : (sendK s bs).2 = { s with wt := s.wt ++ [bs] } := by unfold sendK; rw [if_neg h1, if_neg h2]
  rw [hsk] at hok
  have HF : Hid (∀ V, Below w.heap.size w V → V.cell? ⟨G, 2, none⟩ = some (.slice av s.wt.length cv)) := fun V hV => (hV.cell (p := ⟨G, 2, none⟩) h.head.lt).trans c2
  have HLC : Hid (∀ v, rlinkC s v = #[.int .i64 s.ep, .int .i64 s.pe, v, .int .i64 (s.fi : Int), .int .i64 (s.se : Int), .int .i64 (s.ne : Int), .int .i64 (s.ti : Int)]) := fun _ => rfl
  have HAP : Hid (∀ W1 ac cc, Below w.heap.size w W1 → Own W1 w.drew.heap.size (.slice ac bs.length cc) bs → ∃ a3 n3 c3 W3, (∀ ty, (Builtin.append_ #[41, 41] ty #[.slice av s.wt.length cv, .slice (some ⟨W1.heap.size, 0, none⟩) 1 1]).run Try.prog (W1.alloc (.cells #[.slice ac bs.length cc] 32)) = .ok (.slice a3 n3 c3) W3) ∧
      Blk W3 G 47 #[.int .i64 s.ep, .int .i64 s.pe, .slice av s.wt.length cv, .int .i64 (s.fi : Int), .int .i64 (s.se : Int), .int .i64 (s.ne : Int), .int .i64 (s.ti : Int)] ∧
      LR (W3.setCell ⟨G, 2, none⟩ (.slice a3 n3 c3)) (fun q => T q ∨ (Value.slice a3 n3 c3).ownBlock = some q) lo G (.slice a3 n3 c3) { s with wt := s.wt ++ [bs] } ∧ ((Value.slice a3 n3 c3).ownBlock = (Value.slice av s.wt.length cv).ownBlock ∨ ∀ q, (Value.slice a3 n3 c3).ownBlock = some q → w.heap.size ≤ q) ∧ Chg (LM G (.slice av s.wt.length cv)) w (W3.setCell ⟨G, 2, none⟩ (.slice a3 n3 c3))) := by
    intro W1 ac cc hB1 ho1
    have hbN := below_new W1 (.cells #[.slice ac bs.length cc] 32)
    have hB2 : Below w.heap.size w (W1.alloc (.cells #[.slice ac bs.length cc] 32)) := hB1.trans (hbN.mono hB1.size)
    have h2 := h.after hB2
    have ho2 := ho1.below hbN (Nat.le_refl _)
    have hkN := Blk.new W1 32 #[.slice ac bs.length cc]
    have hsz1 := hB1.size
    have hsz2 := hB2.size
    have hszN : W1.heap.size < (W1.alloc (.cells #[.slice ac bs.length cc] 32)).heap.size := hkN.lt
    generalize W1.alloc (.cells #[.slice ac bs.length cc] 32) = W2 at *
    have hseg : SegA W2 T (.slice ac bs.length cc) bs := ho2.segK (fun q hq => h.lt q hq)
    obtain ⟨v', W3, r1, r2, r3, r4⟩ := h2.row.app h2.tv ⟨W1.heap.size, 0, none⟩ 1 [.slice ac bs.length cc] [bs] rfl (fun j u hu => by
      match j, hu with
      | 0, hu => cases hu; exact hkN.cell (j := 0) rfl
      | (j + 1), hu => simp at hu) (fun i u r hu hr => by
      match i, hu, hr with
      | 0, hu, hr => cases hu; cases hr; exact hseg
      | (i + 1), hu, hr => simp at hu) (by show s.wt.length + 1 ≤ _; omega) (Nat.le_trans hlo hsz2)
    obtain ⟨a3, c3, rfl⟩ := r2.shape
    have hcg : Chg (fun q => (Value.slice av s.wt.length cv).ownBlock = some q) W2 W3 := Chg.of_grown r3 (fun k e => e)
    have hk3 := h2.head.chg hcg h.ne
    have hc3 : Chg (fun q => q = G) W3 (W3.setCell ⟨G, 2, none⟩ (.slice a3 (s.wt ++ [bs]).length c3)) := (Chg.refl (fun q => q = G) W3).setCell G 2 _ (fun _ => rfl)
    have hfr : ∀ q, (Value.slice a3 (s.wt ++ [bs]).length c3).ownBlock = some q → (Value.slice av s.wt.length cv).ownBlock = some q ∨ w.heap.size ≤ q := fun q hq => by
      rcases r4 with k | k
      · exact .inl (by rw [← k]; exact hq)
      · rw [k] at hq; cases hq; exact .inr hsz2
    have hGl := h.head.lt
    have hnG : ∀ q, (Value.slice a3 (s.wt ++ [bs]).length c3).ownBlock = some q → q ≠ G := fun q hq e => by
      rcases hfr q hq with k | k
      · exact h.ne (by rw [← e]; exact k)
      · omega
    have hl3 := r2.lt
    have hs23 := hcg.size
    refine ⟨a3, _, c3, W3, r1, ?_, ⟨?_, ?_, hok, .inl h.tG, fun q hq => .inr hq, fun q hq => ?_, fun q hq => ?_, fun e => hnG G e rfl⟩, ?_, ?_⟩
    · have := hk3
      rw [HLC.out] at this
      exact this
    · exact (hk3.set 2 _).of_eq rfl
    · exact r2.chg hc3 (fun q e => .inl (by rw [e]; exact h.tG)) (fun q hq e => hnG q hq e)
    · rcases hq with e | e
      · have := h.lt q e; have := hc3.size; omega
      · have := (hl3 q e).2; have := hc3.size; omega
    · rcases hq with e | e
      · exact h.ge q e
      · exact (hl3 q e).1
    · rcases r4 with k | k
      · exact .inl k
      · exact .inr (fun q hq => by rw [k] at hq; cases hq; exact hsz2)
    · exact ((Chg.of_below (S := LM G (.slice av s.wt.length cv)) hB2 (Nat.le_refl _)).trans (S' := LM G (.slice av s.wt.length cv)) (hcg.weaken (fun q e => .inr e)) (fun _ _ e => e)).trans (S' := LM G (.slice av s.wt.length cv)) (hc3.weaken (fun q e => .inl e)) (fun _ _ e => e)
  have HB15 : Hid (bs.length ≤ 1500) := (by omega : bs.length ≤ 1500)
  clear hsame hT0 hok hsk h1 h2 hlen hlo h hb HLC
  have HSA : Hid (Seg (w.drew.alloc (.cells #[] 5)) (.slice ax bs.length cx) bs ∧ bs.length ≤ 1500 ∧ Below w.heap.size w (w.drew.alloc (.cells #[] 5))) := ⟨hS.drew.alloc _, HB15.out, ((Below.refl w.heap.size w).drew).alloc (by simp) _⟩
  clear hS
  go_enter Try.func14, Try.ntmps14
  go_wp2_with fail
  refine held_begin (fun _ => True) (by kernel_rfl) ?_
  refine held_take 0 14 _ (.pointer (some ⟨G, 0, none⟩)) rfl rfl (by kernel_rfl) (by kernel_rfl) (by kernel_rfl) rfl trivial (fun _ _ => rfl) ?_
  simp only [Act.put, List.setIfInBounds_toArray, List.set_cons_succ, List.set_cons_zero]
  refine held_take 1 15 _ (.pointer (some ⟨G, 0, none⟩)) rfl rfl (by kernel_rfl) (by kernel_rfl) (by kernel_rfl) rfl trivial (fun _ _ => rfl) ?_
  simp only [Act.put, List.setIfInBounds_toArray, List.set_cons_succ, List.set_cons_zero]
  refine held_take 2 16 _ (.pointer (some ⟨G, 0, none⟩)) rfl rfl (by kernel_rfl) (by kernel_rfl) (by kernel_rfl) rfl trivial (fun _ _ => rfl) ?_
  simp only [Act.put, List.setIfInBounds_toArray, List.set_cons_succ, List.set_cons_zero]
  refine held_take 3 17 _ (.pointer (some ⟨G, 2, none⟩)) rfl rfl (by kernel_rfl) (by kernel_rfl) (by kernel_rfl) rfl trivial (fun _ _ => rfl) ?_
  simp only [Act.put, List.setIfInBounds_toArray, List.set_cons_succ, List.set_cons_zero]
  refine held_take 6 20 _ (.slice ax bs.length cx) rfl rfl (by kernel_rfl) (by kernel_rfl) (by kernel_rfl) rfl trivial (fun _ _ => rfl) ?_
  simp only [Act.put, List.setIfInBounds_toArray, List.set_cons_succ, List.set_cons_zero]
  refine held_all2 4 5 (by kernel_rfl) ?_ ?_
  · refine op_value 4 18 _ (.slice av s.wt.length cv) (w.drew) rfl rfl rfl (exec_loadc 41 _ rfl _ _ rfl (load_one 41 (fun _ => by kernel_rfl) (w.drew) _ _ _ (HF.out _ ((Below.refl _ _).drew)))) ⟨trivial, ?_⟩
    simp only [Act.put, List.setIfInBounds_toArray, List.set_cons_succ, List.set_cons_zero]
    refine held_all1 5 (by kernel_rfl) (op_value 5 19 _ (.slice (some ⟨w.drew.heap.size, 0, none⟩) 0 0) (w.drew.alloc (.cells #[] 5)) rfl rfl rfl (exec_empty rfl) ⟨trivial, ?_⟩)
    simp only [Act.put, List.setIfInBounds_toArray, List.set_cons_succ, List.set_cons_zero]
    obtain ⟨v7, W1, happ7, ho1, hg7, -⟩ := app_bytes _ w.drew.heap.size _ [] (own_emptyD w.drew w.drew.heap.size _ rfl (Nat.le_refl _)) (.slice ax bs.length cx) bs HSA.out.1 (by have := HSA.out.2.1; simp only [List.length_nil]; omega) (by simp)
    have hB1 : Below w.heap.size w W1 := HSA.out.2.2.grown hg7 HSA.out.2.2.size (fun q hq => by cases hq; simp)
    rw [List.nil_append] at ho1
    obtain ⟨ac, cc, rfl⟩ := ho1.seg.shapeD
    refine held_all1 7 (by kernel_rfl) (op_value 7 21 _ (.slice ac bs.length cc) (W1) rfl rfl rfl (exec_app (.tmp 19) (.tmp 20) 32 32 rfl (.slice (some ⟨w.drew.heap.size, 0, none⟩) 0 0) (.slice ax bs.length cx) (.slice ac bs.length cc) rfl rfl happ7) ⟨trivial, ?_⟩)
    simp only [Act.put, List.setIfInBounds_toArray, List.set_cons_succ, List.set_cons_zero]
    refine held_all1 8 (by kernel_rfl) (op_value 8 22 _ (.slice (some ⟨W1.heap.size, 0, none⟩) 1 1) (W1.alloc (.cells #[.slice ac bs.length cc] 32)) rfl rfl rfl (exec_rowK _ rfl ac bs.length cc rfl) ⟨trivial, ?_⟩)
    simp only [Act.put, List.setIfInBounds_toArray, List.set_cons_succ, List.set_cons_zero]
    obtain ⟨a3, n3, c3, W3, happ, hk3, hfin, hvf, hcf⟩ := HAP.out W1 ac cc hB1 ho1
    refine held_all1 9 (by kernel_rfl) (op_value 9 23 _ (.slice a3 n3 c3) (W3) rfl rfl rfl (exec_app (.tmp 18) (.tmp 22) 41 41 rfl (.slice av s.wt.length cv) (.slice (some ⟨W1.heap.size, 0, none⟩) 1 1) (.slice a3 n3 c3) rfl rfl happ) ⟨trivial, ?_⟩)
    simp only [Act.put, List.setIfInBounds_toArray, List.set_cons_succ, List.set_cons_zero]
    refine held_take 10 24 _ (.pointer (some ⟨G, 0, none⟩)) rfl rfl (by kernel_rfl) (by kernel_rfl) (by kernel_rfl) rfl trivial (fun _ _ => rfl) ?_
    simp only [Act.put, List.setIfInBounds_toArray, List.set_cons_succ, List.set_cons_zero]
    refine held_take 11 25 _ (.pointer (some ⟨G, 2, none⟩)) rfl rfl (by kernel_rfl) (by kernel_rfl) (by kernel_rfl) rfl trivial (fun _ _ => rfl) ?_
    simp only [Act.put, List.setIfInBounds_toArray, List.set_cons_succ, List.set_cons_zero]
    refine held_all1 12 (by kernel_rfl) (op_skip 12 _ (W3.setCell ⟨G, 2, none⟩ (.slice a3 n3 c3)) rfl rfl rfl (exec_storesK _ _ rfl G 2 a3 n3 c3 _ rfl rfl (hk3.cell (j := 2) rfl) (hk3.frozen 2)) ⟨trivial, ?_⟩)
    refine wpAnyH_done (by kernel_rfl) ?_ _
    refine NoPanic.normal ?_
    go_wp2
    go_ret
    exact ⟨_, rfl, hfin, hvf, hcf⟩
  · refine op_value 5 19 _ (.slice (some ⟨w.drew.heap.size, 0, none⟩) 0 0) (w.drew.alloc (.cells #[] 5)) rfl rfl rfl (exec_empty rfl) ⟨trivial, ?_⟩
    simp only [Act.put, List.setIfInBounds_toArray, List.set_cons_succ, List.set_cons_zero]
    refine held_all2 4 7 (by kernel_rfl) ?_ ?_
    · refine op_value 4 18 _ (.slice av s.wt.length cv) (w.drew.alloc (.cells #[] 5)) rfl rfl rfl (exec_loadc 41 _ rfl _ _ rfl (load_one 41 (fun _ => by kernel_rfl) (w.drew.alloc (.cells #[] 5)) _ _ _ (HF.out _ (HSA.out.2.2)))) ⟨trivial, ?_⟩
      simp only [Act.put, List.setIfInBounds_toArray, List.set_cons_succ, List.set_cons_zero]
      obtain ⟨v7, W1, happ7, ho1, hg7, -⟩ := app_bytes _ w.drew.heap.size _ [] (own_emptyD w.drew w.drew.heap.size _ rfl (Nat.le_refl _)) (.slice ax bs.length cx) bs HSA.out.1 (by have := HSA.out.2.1; simp only [List.length_nil]; omega) (by simp)
      have hB1 : Below w.heap.size w W1 := HSA.out.2.2.grown hg7 HSA.out.2.2.size (fun q hq => by cases hq; simp)
      rw [List.nil_append] at ho1
      obtain ⟨ac, cc, rfl⟩ := ho1.seg.shapeD
      refine held_all1 7 (by kernel_rfl) (op_value 7 21 _ (.slice ac bs.length cc) (W1) rfl rfl rfl (exec_app (.tmp 19) (.tmp 20) 32 32 rfl (.slice (some ⟨w.drew.heap.size, 0, none⟩) 0 0) (.slice ax bs.length cx) (.slice ac bs.length cc) rfl rfl happ7) ⟨trivial, ?_⟩)
      simp only [Act.put, List.setIfInBounds_toArray, List.set_cons_succ, List.set_cons_zero]
      refine held_all1 8 (by kernel_rfl) (op_value 8 22 _ (.slice (some ⟨W1.heap.size, 0, none⟩) 1 1) (W1.alloc (.cells #[.slice ac bs.length cc] 32)) rfl rfl rfl (exec_rowK _ rfl ac bs.length cc rfl) ⟨trivial, ?_⟩)
      simp only [Act.put, List.setIfInBounds_toArray, List.set_cons_succ, List.set_cons_zero]
      obtain ⟨a3, n3, c3, W3, happ, hk3, hfin, hvf, hcf⟩ := HAP.out W1 ac cc hB1 ho1
      refine held_all1 9 (by kernel_rfl) (op_value 9 23 _ (.slice a3 n3 c3) (W3) rfl rfl rfl (exec_app (.tmp 18) (.tmp 22) 41 41 rfl (.slice av s.wt.length cv) (.slice (some ⟨W1.heap.size, 0, none⟩) 1 1) (.slice a3 n3 c3) rfl rfl happ) ⟨trivial, ?_⟩)
      simp only [Act.put, List.setIfInBounds_toArray, List.set_cons_succ, List.set_cons_zero]
      refine held_take 10 24 _ (.pointer (some ⟨G, 0, none⟩)) rfl rfl (by kernel_rfl) (by kernel_rfl) (by kernel_rfl) rfl trivial (fun _ _ => rfl) ?_
      simp only [Act.put, List.setIfInBounds_toArray, List.set_cons_succ, List.set_cons_zero]
      refine held_take 11 25 _ (.pointer (some ⟨G, 2, none⟩)) rfl rfl (by kernel_rfl) (by kernel_rfl) (by kernel_rfl) rfl trivial (fun _ _ => rfl) ?_
      simp only [Act.put, List.setIfInBounds_toArray, List.set_cons_succ, List.set_cons_zero]
      refine held_all1 12 (by kernel_rfl) (op_skip 12 _ (W3.setCell ⟨G, 2, none⟩ (.slice a3 n3 c3)) rfl rfl rfl (exec_storesK _ _ rfl G 2 a3 n3 c3 _ rfl rfl (hk3.cell (j := 2) rfl) (hk3.frozen 2)) ⟨trivial, ?_⟩)
      refine wpAnyH_done (by kernel_rfl) ?_ _
      refine NoPanic.normal ?_
      go_wp2
      go_ret
      exact ⟨_, rfl, hfin, hvf, hcf⟩
    · obtain ⟨v7, W1, happ7, ho1, hg7, -⟩ := app_bytes _ w.drew.heap.size _ [] (own_emptyD w.drew w.drew.heap.size _ rfl (Nat.le_refl _)) (.slice ax bs.length cx) bs HSA.out.1 (by have := HSA.out.2.1; simp only [List.length_nil]; omega) (by simp)
      have hB1 : Below w.heap.size w W1 := HSA.out.2.2.grown hg7 HSA.out.2.2.size (fun q hq => by cases hq; simp)
      rw [List.nil_append] at ho1
      obtain ⟨ac, cc, rfl⟩ := ho1.seg.shapeD
      refine op_value 7 21 _ (.slice ac bs.length cc) (W1) rfl rfl rfl (exec_app (.tmp 19) (.tmp 20) 32 32 rfl (.slice (some ⟨w.drew.heap.size, 0, none⟩) 0 0) (.slice ax bs.length cx) (.slice ac bs.length cc) rfl rfl happ7) ⟨trivial, ?_⟩
      simp only [Act.put, List.setIfInBounds_toArray, List.set_cons_succ, List.set_cons_zero]
      refine held_all2 4 8 (by kernel_rfl) ?_ ?_
      · refine op_value 4 18 _ (.slice av s.wt.length cv) (W1) rfl rfl rfl (exec_loadc 41 _ rfl _ _ rfl (load_one 41 (fun _ => by kernel_rfl) (W1) _ _ _ (HF.out _ (hB1)))) ⟨trivial, ?_⟩
        simp only [Act.put, List.setIfInBounds_toArray, List.set_cons_succ, List.set_cons_zero]
        refine held_all1 8 (by kernel_rfl) (op_value 8 22 _ (.slice (some ⟨W1.heap.size, 0, none⟩) 1 1) (W1.alloc (.cells #[.slice ac bs.length cc] 32)) rfl rfl rfl (exec_rowK _ rfl ac bs.length cc rfl) ⟨trivial, ?_⟩)
        simp only [Act.put, List.setIfInBounds_toArray, List.set_cons_succ, List.set_cons_zero]
        obtain ⟨a3, n3, c3, W3, happ, hk3, hfin, hvf, hcf⟩ := HAP.out W1 ac cc hB1 ho1
        refine held_all1 9 (by kernel_rfl) (op_value 9 23 _ (.slice a3 n3 c3) (W3) rfl rfl rfl (exec_app (.tmp 18) (.tmp 22) 41 41 rfl (.slice av s.wt.length cv) (.slice (some ⟨W1.heap.size, 0, none⟩) 1 1) (.slice a3 n3 c3) rfl rfl happ) ⟨trivial, ?_⟩)
        simp only [Act.put, List.setIfInBounds_toArray, List.set_cons_succ, List.set_cons_zero]
        refine held_take 10 24 _ (.pointer (some ⟨G, 0, none⟩)) rfl rfl (by kernel_rfl) (by kernel_rfl) (by kernel_rfl) rfl trivial (fun _ _ => rfl) ?_
        simp only [Act.put, List.setIfInBounds_toArray, List.set_cons_succ, List.set_cons_zero]
        refine held_take 11 25 _ (.pointer (some ⟨G, 2, none⟩)) rfl rfl (by kernel_rfl) (by kernel_rfl) (by kernel_rfl) rfl trivial (fun _ _ => rfl) ?_
        simp only [Act.put, List.setIfInBounds_toArray, List.set_cons_succ, List.set_cons_zero]
        refine held_all1 12 (by kernel_rfl) (op_skip 12 _ (W3.setCell ⟨G, 2, none⟩ (.slice a3 n3 c3)) rfl rfl rfl (exec_storesK _ _ rfl G 2 a3 n3 c3 _ rfl rfl (hk3.cell (j := 2) rfl) (hk3.frozen 2)) ⟨trivial, ?_⟩)
        refine wpAnyH_done (by kernel_rfl) ?_ _
        refine NoPanic.normal ?_
        go_wp2
        go_ret
        exact ⟨_, rfl, hfin, hvf, hcf⟩
      · refine op_value 8 22 _ (.slice (some ⟨W1.heap.size, 0, none⟩) 1 1) (W1.alloc (.cells #[.slice ac bs.length cc] 32)) rfl rfl rfl (exec_rowK _ rfl ac bs.length cc rfl) ⟨trivial, ?_⟩
        simp only [Act.put, List.setIfInBounds_toArray, List.set_cons_succ, List.set_cons_zero]
        refine held_all1 4 (by kernel_rfl) (op_value 4 18 _ (.slice av s.wt.length cv) (W1.alloc (.cells #[.slice ac bs.length cc] 32)) rfl rfl rfl (exec_loadc 41 _ rfl _ _ rfl (load_one 41 (fun _ => by kernel_rfl) (W1.alloc (.cells #[.slice ac bs.length cc] 32)) _ _ _ (HF.out _ (hB1.trans ((below_new W1 _).mono hB1.size))))) ⟨trivial, ?_⟩)
        simp only [Act.put, List.setIfInBounds_toArray, List.set_cons_succ, List.set_cons_zero]
        obtain ⟨a3, n3, c3, W3, happ, hk3, hfin, hvf, hcf⟩ := HAP.out W1 ac cc hB1 ho1
        refine held_all1 9 (by kernel_rfl) (op_value 9 23 _ (.slice a3 n3 c3) (W3) rfl rfl rfl (exec_app (.tmp 18) (.tmp 22) 41 41 rfl (.slice av s.wt.length cv) (.slice (some ⟨W1.heap.size, 0, none⟩) 1 1) (.slice a3 n3 c3) rfl rfl happ) ⟨trivial, ?_⟩)
        simp only [Act.put, List.setIfInBounds_toArray, List.set_cons_succ, List.set_cons_zero]
        refine held_take 10 24 _ (.pointer (some ⟨G, 0, none⟩)) rfl rfl (by kernel_rfl) (by kernel_rfl) (by kernel_rfl) rfl trivial (fun _ _ => rfl) ?_
        simp only [Act.put, List.setIfInBounds_toArray, List.set_cons_succ, List.set_cons_zero]
        refine held_take 11 25 _ (.pointer (some ⟨G, 2, none⟩)) rfl rfl (by kernel_rfl) (by kernel_rfl) (by kernel_rfl) rfl trivial (fun _ _ => rfl) ?_
        simp only [Act.put, List.setIfInBounds_toArray, List.set_cons_succ, List.set_cons_zero]
        refine held_all1 12 (by kernel_rfl) (op_skip 12 _ (W3.setCell ⟨G, 2, none⟩ (.slice a3 n3 c3)) rfl rfl rfl (exec_storesK _ _ rfl G 2 a3 n3 c3 _ rfl rfl (hk3.cell (j := 2) rfl) (hk3.frozen 2)) ⟨trivial, ?_⟩)
        refine wpAnyH_done (by kernel_rfl) ?_ _
        refine NoPanic.normal ?_
        go_wp2
        go_ret
        exact ⟨_, rfl, hfin, hvf, hcf⟩
end Go.Proofs.Ytichmnbhephkkaa
