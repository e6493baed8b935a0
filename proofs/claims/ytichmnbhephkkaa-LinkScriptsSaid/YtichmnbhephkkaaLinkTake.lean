/-
  What is proved here: Link.Take takes a packet.
  Conditions: the link lies in memory as laws hold it; the packet's bytes lie apart from what is written.
-/
import Derived.Test.YtichmnbhephkkaaLinkTakeD
namespace Go.Proofs.Ytichmnbhephkkaa
open Go.RowKit

theorem Blk.rangeK {w : World} {g : Nat} {t : TypeId} {arr : Array Value} (h : Blk w g t arr) : w.rangeAt g 0 arr.toList := fun j v hv => by rw [Nat.zero_add]; exact h.cell (by simpa using hv)
theorem exec_notK {a : Act} {o : Oper} {w : World} (t : TypeId) (x : Operand) (ho : o.op = .unOp .not t x) (b : Bool) (hx : a.eval x = .bool b) : (execOp a.eval o).run Try.prog w = .ok (.value (.bool (!b))) w := by
  unfold execOp
  simp [ho, hx]
  rfl
/-- A link that met its peer. -/
theorem LK.met {W W1 : World} {T : Nat → Prop} {lo G : Nat} {v : Value} {s : KS} {p : Int} (h : LP W T lo G v s) (hp : p ≤ 1073741824) (hk : Blk W1 G 69 (linkC (meetK s p) v)) (hc : Chg (fun q => q = G) W W1) : LP W1 T lo G v (meetK s p) :=
  ⟨hk, by rw [meetK_wt]; exact h.row.chg hc (fun q e => by rw [e]; exact h.tG) (fun q hq e => h.ne (by rw [← e]; exact hq)), meetK_ok h.ok hp, h.tG, h.tv, fun q hq => Nat.lt_of_lt_of_le (h.lt q hq) hc.size, h.ge, h.ne⟩
set_option maxRecDepth 100000 in
set_option maxHeartbeats 4000000 in
theorem takeK_any (w : World) (T : Nat → Prop) (lo G : Nat) (v : Value) (s : KS) (p : KP) (ax : Option Addr) (cx : Nat) (h : LP w T lo G v s) (hlo : lo ≤ w.heap.size) (hS : SegA w T (.slice ax p.b.length cx) p.b) :
    Calls Try.prog 15 #[.pointer (some ⟨G, 0, none⟩), kpV p (.slice ax p.b.length cx)] w fun e w' => ∃ v' rv pv, e = .returned (.tuple #[rv, pv]) ∧ LP w' T lo G v' (takeK s p).2.2 ∧ v'.ownBlock = v.ownBlock ∧ RowsO w' T w.heap.size rv (takeK s p).1 ∧ PksO w' T w.heap.size pv (takeK s p).2.1 ∧ Chg (LM G v) w w' := by
  have hbA := below_new w (.cells #[.int .i64 p.k, .int .i64 p.f, .int .i64 p.t, .int .i64 p.s, .int .i64 p.a, .slice ax p.b.length cx] 34)
  have kB := Blk.new w 34 #[.int .i64 p.k, .int .i64 p.f, .int .i64 p.t, .int .i64 p.s, .int .i64 p.a, .slice ax p.b.length cx]
  have hA := h.after hbA
  have hSA := hS.after hbA
  have hT := h.lt
  obtain ⟨B, hB⟩ : ∃ B, B = w.heap.size := ⟨_, rfl⟩
  have hTB : ¬ T B := fun e => by have := hT B e; omega
  have HRT : Hid (∀ V, Calls Try.prog 31 #[.agg #[.int .i64 p.k, .int .i64 p.f, .int .i64 p.t, .int .i64 p.s, .int .i64 p.a, .slice ax p.b.length cx]] V fun e w' => e = .returned (.bool (rightK p)) ∧ Below V.heap.size V w') := fun V => rightK_any p ax cx V
  have HTK : Hid (takeK s p = if rightK p = false ∨ p.f < s.pe then ([], [], s) else if p.k = 1 then ([], [bareK (meetK s p.f) 2], meetK s p.f) else if p.k = 2 then ([], [], if p.t = s.ep then meetK s p.f else s) else dataTakeK s p) := rfl
  have HPR : Hid (rightK p = true → p.ok) := fun e => of_decide_eq_true e
  generalize takeK s p = TK at *
  rw [← hB] at kB
  unfold kpV kpL
  go_enter Try.func15, Try.ntmps15
  go_wp2_with fail
  rw [← hB]
  have hGB : G ≠ B := by have := h.head.lt; omega
  have hBw : w.heap.size ≤ B := by omega
  have hC0 : Chg (LM G v) w (w.alloc (.cells #[.int .i64 p.k, .int .i64 p.f, .int .i64 p.t, .int .i64 p.s, .int .i64 p.a, .slice ax p.b.length cx] 34)) := Chg.of_below hbA (Nat.le_refl _)
  generalize hWA : w.alloc (.cells #[.int .i64 p.k, .int .i64 p.f, .int .i64 p.t, .int .i64 p.s, .int .i64 p.a, .slice ax p.b.length cx] 34) = WA at *
  clear hB hWA
  have HC : Hid (∀ V, Below WA.heap.size WA V → V.rangeAt B 0 [.int .i64 p.k, .int .i64 p.f, .int .i64 p.t, .int .i64 p.s, .int .i64 p.a, .slice ax p.b.length cx] ∧ V.cell? ⟨B, 1, none⟩ = some (.int .i64 p.f) ∧ V.cell? ⟨G, 1, none⟩ = some (.int .i64 s.pe)) := fun V hV => ⟨(kB.below hV kB.lt).rangeK, (kB.below hV kB.lt).cell (j := 1) rfl, (hA.head.below hV hA.head.lt).cell (j := 1) rfl⟩
  have hS0 := HC.out WA.drew (Below.refl _ _).drew
  cases hr : rightK p with
  | false =>
    rw [hr] at HRT HTK
    rw [if_pos (.inl rfl)] at HTK
    clear hr
    refine held_begin (fun V => V.rangeAt B 0 [.int .i64 p.k, .int .i64 p.f, .int .i64 p.t, .int .i64 p.s, .int .i64 p.a, .slice ax p.b.length cx] ∧ V.cell? ⟨B, 1, none⟩ = some (.int .i64 p.f) ∧ V.cell? ⟨G, 1, none⟩ = some (.int .i64 s.pe)) (by kernel_rfl) ?_
    refine held_take 0 6 _ (.agg #[.int .i64 p.k, .int .i64 p.f, .int .i64 p.t, .int .i64 p.s, .int .i64 p.a, .slice ax p.b.length cx]) rfl rfl (by kernel_rfl) (by kernel_rfl) (by kernel_rfl) rfl hS0 (fun V hV => exec_load 34 _ rfl B 0 rfl [.int .i64 p.k, .int .i64 p.f, .int .i64 p.t, .int .i64 p.s, .int .i64 p.a, .slice ax p.b.length cx] _ hV.1 Try.underlying34 rfl info_packet) ?_
    simp only [Act.put, List.setIfInBounds_toArray, List.set_cons_succ, List.set_cons_zero]
    refine held_all1 1 (by kernel_rfl) (op_call 1 7 _ 31 #[.agg #[.int .i64 p.k, .int .i64 p.f, .int .i64 p.t, .int .i64 p.s, .int .i64 p.a, .slice ax p.b.length cx]] rfl rfl rfl (exec_one 31 _ _ rfl _ rfl Try.call31) ((HRT.out _).mono ?_))
    rintro e W1 ⟨rfl, hb1⟩
    have hB1 : Below WA.heap.size WA W1 := ((Below.refl WA.heap.size WA).drew).trans hb1
    have hS1 := HC.out W1 hB1
    refine ⟨_, rfl, hS1, ?_⟩
    simp only [Act.put, List.setIfInBounds_toArray, List.set_cons_succ, List.set_cons_zero]
    refine held_take 2 8 _ (.bool true) rfl rfl (by kernel_rfl) (by kernel_rfl) (by kernel_rfl) rfl hS1 (fun V _ => exec_notK 4 _ rfl false rfl) ?_
    simp only [Act.put, List.setIfInBounds_toArray, List.set_cons_succ, List.set_cons_zero]
    refine held_take 3 9 _ (.bool true) rfl rfl (by kernel_rfl) (by kernel_rfl) (by kernel_rfl) rfl hS1 (fun _ _ => rfl) ?_
    simp only [Act.put, List.setIfInBounds_toArray, List.set_cons_succ, List.set_cons_zero]
    refine held_pass 4 10 _ rfl rfl (by kernel_rfl) (by kernel_rfl) (by kernel_rfl) rfl hS1 ?_
    simp only [Act.put, List.setIfInBounds_toArray, List.set_cons_succ, List.set_cons_zero]
    refine held_pass 5 11 _ rfl rfl (by kernel_rfl) (by kernel_rfl) (by kernel_rfl) rfl hS1 ?_
    simp only [Act.put, List.setIfInBounds_toArray, List.set_cons_succ, List.set_cons_zero]
    refine held_pass 6 12 _ rfl rfl (by kernel_rfl) (by kernel_rfl) (by kernel_rfl) rfl hS1 ?_
    simp only [Act.put, List.setIfInBounds_toArray, List.set_cons_succ, List.set_cons_zero]
    refine held_pass 7 13 _ rfl rfl (by kernel_rfl) (by kernel_rfl) (by kernel_rfl) rfl hS1 ?_
    simp only [Act.put, List.setIfInBounds_toArray, List.set_cons_succ, List.set_cons_zero]
    refine held_pass 8 14 _ rfl rfl (by kernel_rfl) (by kernel_rfl) (by kernel_rfl) rfl hS1 ?_
    simp only [Act.put, List.setIfInBounds_toArray, List.set_cons_succ, List.set_cons_zero]
    refine held_pass 9 15 _ rfl rfl (by kernel_rfl) (by kernel_rfl) (by kernel_rfl) rfl hS1 ?_
    simp only [Act.put, List.setIfInBounds_toArray, List.set_cons_succ, List.set_cons_zero]
    refine held_pass 10 16 _ rfl rfl (by kernel_rfl) (by kernel_rfl) (by kernel_rfl) rfl hS1 ?_
    simp only [Act.put, List.setIfInBounds_toArray, List.set_cons_succ, List.set_cons_zero]
    refine held_pass 11 17 _ rfl rfl (by kernel_rfl) (by kernel_rfl) (by kernel_rfl) rfl hS1 ?_
    simp only [Act.put, List.setIfInBounds_toArray, List.set_cons_succ, List.set_cons_zero]
    refine held_take 12 18 _ (.bool true) rfl rfl (by kernel_rfl) (by kernel_rfl) (by kernel_rfl) rfl hS1 (fun _ _ => rfl) ?_
    simp only [Act.put, List.setIfInBounds_toArray, List.set_cons_succ, List.set_cons_zero]
    refine wpAnyH_done (by kernel_rfl) ?_ _
    refine NoPanic.normal ?_
    have hL1 := hA.after hB1
    have hC1 := hC0.trans (S' := fun _ => False) (Chg.of_below hB1 (Nat.le_refl _)) (fun _ _ e => e.elim)
    clear HC hS0 hS1 hA hSA kB hC0 hb1 HRT
    go_wp2
    go_ret2
    rw [HTK.out]
    exact ⟨_, _, _, rfl, hL1, rfl, RowsO.nil _ _ _, PksO.nil _ _ _, hC1⟩
  | true =>
    have hok : p.ok := HPR.out hr
    rw [hr] at HRT
    by_cases hlt : p.f < s.pe
    · rw [if_pos (.inr hlt)] at HTK
      have d2 : decide (p.f < s.pe) = true := decide_eq_true hlt
      clear hr hlt
      refine held_begin (fun V => V.rangeAt B 0 [.int .i64 p.k, .int .i64 p.f, .int .i64 p.t, .int .i64 p.s, .int .i64 p.a, .slice ax p.b.length cx] ∧ V.cell? ⟨B, 1, none⟩ = some (.int .i64 p.f) ∧ V.cell? ⟨G, 1, none⟩ = some (.int .i64 s.pe)) (by kernel_rfl) ?_
      refine held_take 0 6 _ (.agg #[.int .i64 p.k, .int .i64 p.f, .int .i64 p.t, .int .i64 p.s, .int .i64 p.a, .slice ax p.b.length cx]) rfl rfl (by kernel_rfl) (by kernel_rfl) (by kernel_rfl) rfl hS0 (fun V hV => exec_load 34 _ rfl B 0 rfl [.int .i64 p.k, .int .i64 p.f, .int .i64 p.t, .int .i64 p.s, .int .i64 p.a, .slice ax p.b.length cx] _ hV.1 Try.underlying34 rfl info_packet) ?_
      simp only [Act.put, List.setIfInBounds_toArray, List.set_cons_succ, List.set_cons_zero]
      refine held_all1 1 (by kernel_rfl) (op_call 1 7 _ 31 #[.agg #[.int .i64 p.k, .int .i64 p.f, .int .i64 p.t, .int .i64 p.s, .int .i64 p.a, .slice ax p.b.length cx]] rfl rfl rfl (exec_one 31 _ _ rfl _ rfl Try.call31) ((HRT.out _).mono ?_))
      rintro e W1 ⟨rfl, hb1⟩
      have hB1 : Below WA.heap.size WA W1 := ((Below.refl WA.heap.size WA).drew).trans hb1
      have hS1 := HC.out W1 hB1
      refine ⟨_, rfl, hS1, ?_⟩
      simp only [Act.put, List.setIfInBounds_toArray, List.set_cons_succ, List.set_cons_zero]
      refine held_take 2 8 _ (.bool false) rfl rfl (by kernel_rfl) (by kernel_rfl) (by kernel_rfl) rfl hS1 (fun V _ => exec_notK 4 _ rfl true rfl) ?_
      simp only [Act.put, List.setIfInBounds_toArray, List.set_cons_succ, List.set_cons_zero]
      refine held_take 3 9 _ (.bool false) rfl rfl (by kernel_rfl) (by kernel_rfl) (by kernel_rfl) rfl hS1 (fun _ _ => rfl) ?_
      simp only [Act.put, List.setIfInBounds_toArray, List.set_cons_succ, List.set_cons_zero]
      refine held_take 4 10 _ (.pointer (some ⟨B, 1, none⟩)) rfl rfl (by kernel_rfl) (by kernel_rfl) (by kernel_rfl) rfl hS1 (fun _ _ => rfl) ?_
      simp only [Act.put, List.setIfInBounds_toArray, List.set_cons_succ, List.set_cons_zero]
      refine held_take 5 11 _ (.int .i64 p.f) rfl rfl (by kernel_rfl) (by kernel_rfl) (by kernel_rfl) rfl hS1 (fun V hV => exec_loadc 3 _ rfl _ _ rfl (load_one 3 (fun _ => by kernel_rfl) V _ _ _ hV.2.1)) ?_
      simp only [Act.put, List.setIfInBounds_toArray, List.set_cons_succ, List.set_cons_zero]
      refine held_take 6 12 _ (.pointer (some ⟨G, 0, none⟩)) rfl rfl (by kernel_rfl) (by kernel_rfl) (by kernel_rfl) rfl hS1 (fun _ _ => rfl) ?_
      simp only [Act.put, List.setIfInBounds_toArray, List.set_cons_succ, List.set_cons_zero]
      refine held_take 7 13 _ (.pointer (some ⟨G, 0, none⟩)) rfl rfl (by kernel_rfl) (by kernel_rfl) (by kernel_rfl) rfl hS1 (fun _ _ => rfl) ?_
      simp only [Act.put, List.setIfInBounds_toArray, List.set_cons_succ, List.set_cons_zero]
      refine held_take 8 14 _ (.pointer (some ⟨G, 0, none⟩)) rfl rfl (by kernel_rfl) (by kernel_rfl) (by kernel_rfl) rfl hS1 (fun _ _ => rfl) ?_
      simp only [Act.put, List.setIfInBounds_toArray, List.set_cons_succ, List.set_cons_zero]
      refine held_take 9 15 _ (.pointer (some ⟨G, 1, none⟩)) rfl rfl (by kernel_rfl) (by kernel_rfl) (by kernel_rfl) rfl hS1 (fun _ _ => rfl) ?_
      simp only [Act.put, List.setIfInBounds_toArray, List.set_cons_succ, List.set_cons_zero]
      refine held_take 10 16 _ (.int .i64 s.pe) rfl rfl (by kernel_rfl) (by kernel_rfl) (by kernel_rfl) rfl hS1 (fun V hV => exec_loadc 3 _ rfl _ _ rfl (load_one 3 (fun _ => by kernel_rfl) V _ _ _ hV.2.2)) ?_
      simp only [Act.put, List.setIfInBounds_toArray, List.set_cons_succ, List.set_cons_zero]
      refine held_take 11 17 _ (.bool true) rfl rfl (by kernel_rfl) (by kernel_rfl) (by kernel_rfl) rfl hS1 (fun V _ => exec_lssK 3 _ _ rfl _ _ _ rfl rfl d2) ?_
      simp only [Act.put, List.setIfInBounds_toArray, List.set_cons_succ, List.set_cons_zero]
      refine held_take 12 18 _ (.bool true) rfl rfl (by kernel_rfl) (by kernel_rfl) (by kernel_rfl) rfl hS1 (fun _ _ => rfl) ?_
      simp only [Act.put, List.setIfInBounds_toArray, List.set_cons_succ, List.set_cons_zero]
      refine wpAnyH_done (by kernel_rfl) ?_ _
      refine NoPanic.normal ?_
      have hL1 := hA.after hB1
      have hC1 := hC0.trans (S' := fun _ => False) (Chg.of_below hB1 (Nat.le_refl _)) (fun _ _ e => e.elim)
      clear HC hS0 hS1 hA hSA kB hC0 hb1 HRT
      go_wp2
      go_ret2
      rw [HTK.out]
      exact ⟨_, _, _, rfl, hL1, rfl, RowsO.nil _ _ _, PksO.nil _ _ _, hC1⟩
    rw [if_neg (by rw [hr]; intro e; rcases e with e | e; cases e; exact hlt e)] at HTK
    have d2 : decide (p.f < s.pe) = false := decide_eq_false hlt
    clear hr hlt
    refine held_begin (fun V => V.rangeAt B 0 [.int .i64 p.k, .int .i64 p.f, .int .i64 p.t, .int .i64 p.s, .int .i64 p.a, .slice ax p.b.length cx] ∧ V.cell? ⟨B, 1, none⟩ = some (.int .i64 p.f) ∧ V.cell? ⟨G, 1, none⟩ = some (.int .i64 s.pe)) (by kernel_rfl) ?_
    refine held_take 0 6 _ (.agg #[.int .i64 p.k, .int .i64 p.f, .int .i64 p.t, .int .i64 p.s, .int .i64 p.a, .slice ax p.b.length cx]) rfl rfl (by kernel_rfl) (by kernel_rfl) (by kernel_rfl) rfl hS0 (fun V hV => exec_load 34 _ rfl B 0 rfl [.int .i64 p.k, .int .i64 p.f, .int .i64 p.t, .int .i64 p.s, .int .i64 p.a, .slice ax p.b.length cx] _ hV.1 Try.underlying34 rfl info_packet) ?_
    simp only [Act.put, List.setIfInBounds_toArray, List.set_cons_succ, List.set_cons_zero]
    refine held_all1 1 (by kernel_rfl) (op_call 1 7 _ 31 #[.agg #[.int .i64 p.k, .int .i64 p.f, .int .i64 p.t, .int .i64 p.s, .int .i64 p.a, .slice ax p.b.length cx]] rfl rfl rfl (exec_one 31 _ _ rfl _ rfl Try.call31) ((HRT.out _).mono ?_))
    rintro e W1 ⟨rfl, hb1⟩
    have hB1 : Below WA.heap.size WA W1 := ((Below.refl WA.heap.size WA).drew).trans hb1
    have hS1 := HC.out W1 hB1
    refine ⟨_, rfl, hS1, ?_⟩
    simp only [Act.put, List.setIfInBounds_toArray, List.set_cons_succ, List.set_cons_zero]
    refine held_take 2 8 _ (.bool false) rfl rfl (by kernel_rfl) (by kernel_rfl) (by kernel_rfl) rfl hS1 (fun V _ => exec_notK 4 _ rfl true rfl) ?_
    simp only [Act.put, List.setIfInBounds_toArray, List.set_cons_succ, List.set_cons_zero]
    refine held_take 3 9 _ (.bool false) rfl rfl (by kernel_rfl) (by kernel_rfl) (by kernel_rfl) rfl hS1 (fun _ _ => rfl) ?_
    simp only [Act.put, List.setIfInBounds_toArray, List.set_cons_succ, List.set_cons_zero]
    refine held_take 4 10 _ (.pointer (some ⟨B, 1, none⟩)) rfl rfl (by kernel_rfl) (by kernel_rfl) (by kernel_rfl) rfl hS1 (fun _ _ => rfl) ?_
    simp only [Act.put, List.setIfInBounds_toArray, List.set_cons_succ, List.set_cons_zero]
    refine held_take 5 11 _ (.int .i64 p.f) rfl rfl (by kernel_rfl) (by kernel_rfl) (by kernel_rfl) rfl hS1 (fun V hV => exec_loadc 3 _ rfl _ _ rfl (load_one 3 (fun _ => by kernel_rfl) V _ _ _ hV.2.1)) ?_
    simp only [Act.put, List.setIfInBounds_toArray, List.set_cons_succ, List.set_cons_zero]
    refine held_take 6 12 _ (.pointer (some ⟨G, 0, none⟩)) rfl rfl (by kernel_rfl) (by kernel_rfl) (by kernel_rfl) rfl hS1 (fun _ _ => rfl) ?_
    simp only [Act.put, List.setIfInBounds_toArray, List.set_cons_succ, List.set_cons_zero]
    refine held_take 7 13 _ (.pointer (some ⟨G, 0, none⟩)) rfl rfl (by kernel_rfl) (by kernel_rfl) (by kernel_rfl) rfl hS1 (fun _ _ => rfl) ?_
    simp only [Act.put, List.setIfInBounds_toArray, List.set_cons_succ, List.set_cons_zero]
    refine held_take 8 14 _ (.pointer (some ⟨G, 0, none⟩)) rfl rfl (by kernel_rfl) (by kernel_rfl) (by kernel_rfl) rfl hS1 (fun _ _ => rfl) ?_
    simp only [Act.put, List.setIfInBounds_toArray, List.set_cons_succ, List.set_cons_zero]
    refine held_take 9 15 _ (.pointer (some ⟨G, 1, none⟩)) rfl rfl (by kernel_rfl) (by kernel_rfl) (by kernel_rfl) rfl hS1 (fun _ _ => rfl) ?_
    simp only [Act.put, List.setIfInBounds_toArray, List.set_cons_succ, List.set_cons_zero]
    refine held_take 10 16 _ (.int .i64 s.pe) rfl rfl (by kernel_rfl) (by kernel_rfl) (by kernel_rfl) rfl hS1 (fun V hV => exec_loadc 3 _ rfl _ _ rfl (load_one 3 (fun _ => by kernel_rfl) V _ _ _ hV.2.2)) ?_
    simp only [Act.put, List.setIfInBounds_toArray, List.set_cons_succ, List.set_cons_zero]
    refine held_take 11 17 _ (.bool false) rfl rfl (by kernel_rfl) (by kernel_rfl) (by kernel_rfl) rfl hS1 (fun V _ => exec_lssK 3 _ _ rfl _ _ _ rfl rfl d2) ?_
    simp only [Act.put, List.setIfInBounds_toArray, List.set_cons_succ, List.set_cons_zero]
    refine held_take 12 18 _ (.bool false) rfl rfl (by kernel_rfl) (by kernel_rfl) (by kernel_rfl) rfl hS1 (fun _ _ => rfl) ?_
    simp only [Act.put, List.setIfInBounds_toArray, List.set_cons_succ, List.set_cons_zero]
    refine wpAnyH_done (by kernel_rfl) ?_ _
    refine NoPanic.normal ?_
    have hL1 := hA.after hB1
    have hS1' := hSA.after hB1
    have kB1 := kB.below hB1 kB.lt
    have hC1 := hC0.trans (S' := fun _ => False) (Chg.of_below hB1 (Nat.le_refl _)) (fun _ _ e => e.elim)
    have hsz1 : w.heap.size ≤ W1.heap.size := hC1.size
    have b0 : W1.cell? ⟨B, 0, none⟩ = some (.int .i64 p.k) := kB1.cell (j := 0) rfl
    have b1 : W1.cell? ⟨B, 1, none⟩ = some (.int .i64 p.f) := kB1.cell (j := 1) rfl
    have b2 : W1.cell? ⟨B, 2, none⟩ = some (.int .i64 p.t) := kB1.cell (j := 2) rfl
    clear HC hS0 hS1 hA hSA kB hC0 hb1 HRT hB1 d2
    have HMT : Hid (∀ V, Blk V G 69 (linkC s v) → Calls Try.prog 32 #[.pointer (some ⟨G, 0, none⟩), .int .i64 p.f] V fun r w' => r = .returned (.tuple #[]) ∧ Blk w' G 69 (linkC (meetK s p.f) v) ∧ Chg (fun q => q = G) V w') := fun V hV => meetK_any G s v p.f V hV
    have hpf : p.f ≤ 1073741824 := hok.2.2.1.2
    by_cases hk1 : p.k = 1
    · rw [if_pos hk1] at HTK
      rw [hk1] at b0
      have HWL : Hid (∀ V, Blk V G 69 (linkC (meetK s p.f) v) → Calls Try.prog 33 #[.pointer (some ⟨G, 0, none⟩)] V fun r w' => r = .returned (.agg #[.int .i64 2, .int .i64 (meetK s p.f).ep, .int .i64 (meetK s p.f).pe, .int .i64 0, .int .i64 0, .slice none 0 0]) ∧ Below V.heap.size V w') := fun V hV => welcome_any G _ v V hV
      clear hk1 hok b2 kB1 hS1'
      go_wp2_with fail
      refine (HMT.out W1 hL1.head).mono ?_
      rintro e W2 ⟨rfl, hk2, hc2⟩
      have hL2 := hL1.met hpf hk2 hc2
      have hC2 := hC1.trans (S' := LM G v) (hc2.weaken (fun q e => .inl e)) (fun _ _ e => e)
      clear b0 b1 HMT hL1 hC1
      go_wp2_with fail
      refine (HWL.out W2 hk2).mono ?_
      rintro e W3 ⟨rfl, hb3⟩
      have hL3 := hL2.after hb3
      have hP4 := pks_one (lo := w.heap.size) (bareK (meetK s p.f) 2) (.slice none 0 0) (segA_nil W3 T) hL3.lt (Nat.le_trans hC2.size hb3.size)
      have hb4 := below_new W3 (.cells (kpL (bareK (meetK s p.f) 2) (.slice none 0 0)).toArray 34)
      have hL4 := hL3.after hb4
      have hC4 : Chg (LM G v) w (W3.alloc (.cells (kpL (bareK (meetK s p.f) 2) (.slice none 0 0)).toArray 34)) := (hC2.trans (S' := fun _ => False) (Chg.of_below hb3 (Nat.le_refl _)) (fun _ _ e => e.elim)).trans (S' := fun _ => False) (Chg.of_below hb4 (Nat.le_refl _)) (fun _ _ e => e.elim)
      clear HWL hL2 hL3 hC2 hk2
      go_wp2
      go_ret2
      rw [HTK.out]
      exact ⟨_, _, _, rfl, hL4, rfl, RowsO.nil _ _ _, hP4, hC4⟩
    rw [if_neg hk1] at HTK
    have e1 : (p.k == 1) = false := beq_eq_false_iff_ne.2 hk1
    by_cases hk2 : p.k = 2
    · rw [if_pos hk2] at HTK
      have e2 : (p.k == 2) = true := beq_iff_eq.2 hk2
      have g0 : W1.cell? ⟨G, 0, none⟩ = some (.int .i64 s.ep) := hL1.head.cell (j := 0) rfl
      clear hk1 hk2 hok kB1 hS1'
      by_cases ht : p.t = s.ep
      · rw [if_pos ht] at HTK
        have e3 : (p.t == s.ep) = true := beq_iff_eq.2 ht
        clear ht
        go_wp2_with fail
        go_quiet (fail)
        have hL2 := hL1.after (Below.drewN (Below.refl _ _) nq)
        have hC2 := hC1.trans (S' := fun _ => False) (Chg.of_below (Below.drewN (Below.refl W1.heap.size W1) nq) (Nat.le_refl _)) (fun _ _ e => e.elim)
        have b1' : (W1.drewN nq).cell? ⟨B, 1, none⟩ = some (.int .i64 p.f) := b1
        generalize W1.drewN nq = W2 at *
        clear hL1 hC1 b0 b1 b2 g0 e1 e2 e3
        go_wp2_with fail
        refine (HMT.out W2 hL2.head).mono ?_
        rintro e W3 ⟨rfl, hk3, hc3⟩
        have hL3 := hL2.met hpf hk3 hc3
        have hC3 := hC2.trans (S' := LM G v) (hc3.weaken (fun q e => .inl e)) (fun _ _ e => e)
        clear b1' HMT hL2 hC2
        go_wp2
        go_ret2
        rw [HTK.out]
        exact ⟨_, _, _, rfl, hL3, rfl, RowsO.nil _ _ _, PksO.nil _ _ _, hC3⟩
      · rw [if_neg ht] at HTK
        have e3 : (p.t == s.ep) = false := beq_eq_false_iff_ne.2 ht
        clear ht
        go_wp2_with fail
        go_quiet (fail)
        have hL2 := hL1.after (Below.drewN (Below.refl _ _) nq)
        have hC2 := hC1.trans (S' := fun _ => False) (Chg.of_below (Below.drewN (Below.refl W1.heap.size W1) nq) (Nat.le_refl _)) (fun _ _ e => e.elim)
        clear HMT hL1 hC1 b0 b1 b2 g0 e1 e2
        go_wp2
        go_ret2
        rw [HTK.out]
        exact ⟨_, _, _, rfl, hL2, rfl, RowsO.nil _ _ _, PksO.nil _ _ _, hC2⟩
    rw [if_neg hk2] at HTK
    have e2 : (p.k == 2) = false := beq_eq_false_iff_ne.2 hk2
    have HTD : Hid (Calls Try.prog 34 #[.pointer (some ⟨G, 0, none⟩), .agg #[.int .i64 p.k, .int .i64 p.f, .int .i64 p.t, .int .i64 p.s, .int .i64 p.a, .slice ax p.b.length cx]] W1 fun e w' => ∃ v' rv pv, e = .returned (.tuple #[rv, pv]) ∧ LP w' T lo G v' (dataTakeK s p).2.2 ∧ v'.ownBlock = v.ownBlock ∧ RowsO w' T W1.heap.size rv (dataTakeK s p).1 ∧ PksO w' T W1.heap.size pv (dataTakeK s p).2.1 ∧ Chg (LM G v) W1 w') := takeDataK_any W1 T lo G v s p ax cx hL1 (by omega) hS1' hok.2.1 hok.2.2.2.2.1.2 hok.2.2.2.2.2.1.2
    clear hk1 hk2 hok hS1' hL1 HMT b1 b2
    go_wp2_with (refine wpList_load_row rfl 34 _ rfl B rfl 34 _ (0, 0) _ kB1 Try.underlying34 rfl info_packet ?_)
    refine HTD.out.mono ?_
    rintro e W2 ⟨v2, rv, pv, rfl, hL2, hv2, hr2, hp2, hc2⟩
    have hr2' := hr2.mono hsz1
    have hp2' := hp2.mono hsz1
    have hC2 := hC1.trans (S' := LM G v) hc2 (fun _ _ e => e)
    clear HTD kB1 b0 e1 e2 hr2 hp2
    go_wp2
    go_ret2
    rw [HTK.out]
    exact ⟨_, _, _, rfl, hL2, hv2, hr2', hp2', hC2⟩
end Go.Proofs.Ytichmnbhephkkaa
