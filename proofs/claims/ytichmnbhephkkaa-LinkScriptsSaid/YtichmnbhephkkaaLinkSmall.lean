/-
  What is proved here: how a link lies in memory; its small calls: begin, packet, hello, welcome, acknowledgement, pass, acknowledged, meet.
  Conditions: the link lies in memory.
-/
import Derived.Test.YtichmnbhephkkaaLinkOwn
import Derived.Test.YtichmnbhephkkaaLinkRight
import Derived.Test.YtichmnbhephkkaaBytesClone
import Derived.BigQuiet
import Derived.Deep.QuietTactic
namespace Go.Proofs.Ytichmnbhephkkaa
open Go.RowKit

def linkC (s : KS) (v : Value) : Array Value := #[.int .i64 s.ep, .int .i64 s.pe, .int .i64 (s.fi : Int), .int .i64 (s.se : Int), .int .i64 (s.ne : Int), .int .i64 (s.ti : Int), v]
theorem info_packet : (Try.prog.info? 34).map (·.size) = some 6 := by kernel_rfl
theorem info_sess : (Try.prog.info? 66).map (·.size) = some 6 := by kernel_rfl
theorem below_new (w : World) (o : Obj) : Below w.heap.size w (w.alloc o) := (Below.refl w.heap.size w).alloc (Nat.le_refl _) o
theorem exec_buildK {a : Act} {o : Oper} {w : World} (t : TypeId) (parts : Array (Nat × Operand)) (ho : o.op = .build t parts) (arr : Array Value) (hb0 : Try.prog.built t (parts.toList.map fun p => (p.1, a.eval p.2)) = some arr) : (execOp a.eval o).run Try.prog w = .ok (.value (.agg arr)) w := by
  have hb : Try.prog.built t (parts.map fun (i, x) => (i, a.eval x)).toList = some arr := by rw [Array.toList_map]; exact hb0
  unfold execOp
  simp only [ho, Sem.run_bind, run_build w t _ arr hb, Result.andThen_ok]
  rfl
theorem built_packet (k e p : Int) : Try.prog.built 34 [(0, .int .i64 k), (1, .int .i64 e), (2, .int .i64 p)] = some #[.int .i64 k, .int .i64 e, .int .i64 p, .int .i64 0, .int .i64 0, .slice none 0 0] := by kernel_rfl

set_option maxRecDepth 100000 in
theorem beginK_any (e p : Int) (w : World) : Calls Try.prog 24 #[.int .i64 e, .int .i64 p] w fun r w' => r = .returned (.agg #[.int .i64 e, .int .i64 p, .int .i64 1, .int .i64 0, .int .i64 1, .int .i64 0]) ∧ Below w.heap.size w w' := by
  go_enter Try.func24, Try.ntmps24
  go_wp2
  refine bodyPost_ret (v := .agg #[.int .i64 e, .int .i64 p, .int .i64 1, .int .i64 0, .int .i64 1, .int .i64 0]) (results_cell_row Try.results24 _ _ w.heap.size 66 _ (0, 0) _ rfl (Blk.new _ _ _) Try.underlying66 rfl info_sess) rfl ⟨rfl, below_new w _⟩

set_option maxRecDepth 100000 in
theorem packetK_any (G : Nat) (s : KS) (v : Value) (k : Int) (w : World) (hK : Blk w G 69 (linkC s v)) : Calls Try.prog 37 #[.pointer (some ⟨G, 0, none⟩), .int .i64 k] w fun r w' => r = .returned (kpV (bareK s k) (.slice none 0 0)) ∧ Below w.heap.size w w' := by
  have c0 : w.cell? ⟨G, 0, none⟩ = some (.int .i64 s.ep) := hK.cell (j := 0) rfl
  have c1 : w.cell? ⟨G, 1, none⟩ = some (.int .i64 s.pe) := hK.cell (j := 1) rfl
  have hGl := hK.lt
  have hb := below_new w (.cells #[.int .i64 0, .int .i64 0, .int .i64 0, .int .i64 0, .int .i64 0, .slice none 0 0] 34)
  have kR := Blk.new w 34 #[.int .i64 0, .int .i64 0, .int .i64 0, .int .i64 0, .int .i64 0, .slice none 0 0]
  have hS0 : (fun V : World => V.cell? ⟨G, 0, none⟩ = some (.int .i64 s.ep) ∧ V.cell? ⟨G, 1, none⟩ = some (.int .i64 s.pe)) (w.alloc (.cells #[.int .i64 0, .int .i64 0, .int .i64 0, .int .i64 0, .int .i64 0, .slice none 0 0] 34)).drew := ⟨(hb.cell (p := ⟨G, 0, none⟩) hGl).trans c0, (hb.cell (p := ⟨G, 1, none⟩) hGl).trans c1⟩
  clear hK
  go_enter Try.func37, Try.ntmps37
  go_wp2_with fail
  refine held_begin (fun V => V.cell? ⟨G, 0, none⟩ = some (.int .i64 s.ep) ∧ V.cell? ⟨G, 1, none⟩ = some (.int .i64 s.pe)) (by kernel_rfl) ?_
  refine held_take 0 5 _ (.int .i64 k) rfl rfl (by kernel_rfl) (by kernel_rfl) (by kernel_rfl) rfl hS0 (fun _ _ => rfl) ?_
  simp only [Act.put, List.setIfInBounds_toArray, List.set_cons_succ, List.set_cons_zero]
  refine held_take 1 6 _ (.pointer (some ⟨G, 0, none⟩)) rfl rfl (by kernel_rfl) (by kernel_rfl) (by kernel_rfl) rfl hS0 (fun _ _ => rfl) ?_
  simp only [Act.put, List.setIfInBounds_toArray, List.set_cons_succ, List.set_cons_zero]
  refine held_take 2 7 _ (.pointer (some ⟨G, 0, none⟩)) rfl rfl (by kernel_rfl) (by kernel_rfl) (by kernel_rfl) rfl hS0 (fun _ _ => rfl) ?_
  simp only [Act.put, List.setIfInBounds_toArray, List.set_cons_succ, List.set_cons_zero]
  refine held_take 3 8 _ (.pointer (some ⟨G, 0, none⟩)) rfl rfl (by kernel_rfl) (by kernel_rfl) (by kernel_rfl) rfl hS0 (fun _ _ => rfl) ?_
  simp only [Act.put, List.setIfInBounds_toArray, List.set_cons_succ, List.set_cons_zero]
  refine held_take 4 9 _ (.int .i64 s.ep) rfl rfl (by kernel_rfl) (by kernel_rfl) (by kernel_rfl) rfl hS0 (fun V hV => exec_loadc 3 _ rfl _ _ rfl (load_one 3 (fun _ => by kernel_rfl) V _ _ _ hV.1)) ?_
  simp only [Act.put, List.setIfInBounds_toArray, List.set_cons_succ, List.set_cons_zero]
  refine held_take 5 10 _ (.pointer (some ⟨G, 0, none⟩)) rfl rfl (by kernel_rfl) (by kernel_rfl) (by kernel_rfl) rfl hS0 (fun _ _ => rfl) ?_
  simp only [Act.put, List.setIfInBounds_toArray, List.set_cons_succ, List.set_cons_zero]
  refine held_take 6 11 _ (.pointer (some ⟨G, 0, none⟩)) rfl rfl (by kernel_rfl) (by kernel_rfl) (by kernel_rfl) rfl hS0 (fun _ _ => rfl) ?_
  simp only [Act.put, List.setIfInBounds_toArray, List.set_cons_succ, List.set_cons_zero]
  refine held_take 7 12 _ (.pointer (some ⟨G, 1, none⟩)) rfl rfl (by kernel_rfl) (by kernel_rfl) (by kernel_rfl) rfl hS0 (fun _ _ => rfl) ?_
  simp only [Act.put, List.setIfInBounds_toArray, List.set_cons_succ, List.set_cons_zero]
  refine held_take 8 13 _ (.int .i64 s.pe) rfl rfl (by kernel_rfl) (by kernel_rfl) (by kernel_rfl) rfl hS0 (fun V hV => exec_loadc 3 _ rfl _ _ rfl (load_one 3 (fun _ => by kernel_rfl) V _ _ _ hV.2)) ?_
  simp only [Act.put, List.setIfInBounds_toArray, List.set_cons_succ, List.set_cons_zero]
  refine held_take 9 14 _ (.agg #[.int .i64 k, .int .i64 s.ep, .int .i64 s.pe, .int .i64 0, .int .i64 0, .slice none 0 0]) rfl rfl (by kernel_rfl) (by kernel_rfl) (by kernel_rfl) rfl hS0 (fun V _ => exec_buildK 34 #[(0, .tmp 5), (1, .tmp 9), (2, .tmp 13)] rfl _ (built_packet k s.ep s.pe)) ?_
  simp only [Act.put, List.setIfInBounds_toArray, List.set_cons_succ, List.set_cons_zero]
  refine held_all1 10 (by kernel_rfl) (op_row 10 _ rfl rfl rfl 34 _ _ rfl w.heap.size #[.int .i64 k, .int .i64 s.ep, .int .i64 s.pe, .int .i64 0, .int .i64 0, .slice none 0 0] rfl rfl 34 _ kR.drew info_packet rfl (by simp [Value.oneCell']) ?_)
  intro W1 kR1 hg1 _
  have hb1 : Below w.heap.size w W1 := below_grown (Below.drew (below_new w _)) hg1 (by simp) (fun q hq => by cases hq; exact Nat.le_refl _)
  refine ⟨⟨(hb1.cell (p := ⟨G, 0, none⟩) hGl).trans c0, (hb1.cell (p := ⟨G, 1, none⟩) hGl).trans c1⟩, ?_⟩
  refine wpAnyH_done (by kernel_rfl) ?_ _
  refine NoPanic.normal ?_
  go_wp2
  refine bodyPost_ret (v := kpV (bareK s k) (.slice none 0 0)) (results_cell_row Try.results37 _ _ w.heap.size 34 _ (0, 0) _ rfl kR1 Try.underlying34 rfl info_packet) rfl ⟨rfl, hb1⟩
set_option maxRecDepth 100000 in
theorem hello_any (G : Nat) (s : KS) (v : Value) (w : World) (hK : Blk w G 69 (linkC s v)) : Calls Try.prog 26 #[.pointer (some ⟨G, 0, none⟩)] w fun r w' => r = .returned (kpV (bareK s 1) (.slice none 0 0)) ∧ Below w.heap.size w w' := by
  have hb := below_new w (.cells #[.int .i64 0, .int .i64 0, .int .i64 0, .int .i64 0, .int .i64 0, .slice none 0 0] 34)
  have kR := Blk.new w 34 #[.int .i64 0, .int .i64 0, .int .i64 0, .int .i64 0, .int .i64 0, .slice none 0 0]
  have HP := packetK_any G s v 1 _ (hK.below hb hK.lt)
  clear hK
  unfold kpV kpL bareK at *
  go_enter Try.func26, Try.ntmps26
  go_wp2_with fail
  refine HP.mono ?_
  rintro e w1 ⟨rfl, hb1⟩
  have kR1 := kR.below hb1 kR.lt
  have hB1 : Below w.heap.size w w1 := hb.trans (hb1.mono hb.size)
  clear hb hb1 kR HP
  go_wp2_with (refine store_blk rfl 34 _ _ rfl rfl w.heap.size #[.int .i64 1, .int .i64 s.ep, .int .i64 s.pe, .int .i64 0, .int .i64 0, .slice none 0 0] rfl rfl 34 _ kR1 info_packet rfl (by simp [Value.oneCell']) ?_; intro w2 kR2 hg2 _)
  refine bodyPost_ret (v := .agg #[.int .i64 1, .int .i64 s.ep, .int .i64 s.pe, .int .i64 0, .int .i64 0, .slice none 0 0]) (results_cell_row Try.results26 _ _ w.heap.size 34 _ (0, 0) _ rfl kR2 Try.underlying34 rfl info_packet) rfl ⟨rfl, below_grown hB1 hg2 hB1.size (fun q hq => by cases hq; exact Nat.le_refl _)⟩
set_option maxRecDepth 100000 in
theorem welcome_any (G : Nat) (s : KS) (v : Value) (w : World) (hK : Blk w G 69 (linkC s v)) : Calls Try.prog 33 #[.pointer (some ⟨G, 0, none⟩)] w fun r w' => r = .returned (kpV (bareK s 2) (.slice none 0 0)) ∧ Below w.heap.size w w' := by
  have hb := below_new w (.cells #[.int .i64 0, .int .i64 0, .int .i64 0, .int .i64 0, .int .i64 0, .slice none 0 0] 34)
  have kR := Blk.new w 34 #[.int .i64 0, .int .i64 0, .int .i64 0, .int .i64 0, .int .i64 0, .slice none 0 0]
  have HP := packetK_any G s v 2 _ (hK.below hb hK.lt)
  clear hK
  unfold kpV kpL bareK at *
  go_enter Try.func33, Try.ntmps33
  go_wp2_with fail
  refine HP.mono ?_
  rintro e w1 ⟨rfl, hb1⟩
  have kR1 := kR.below hb1 kR.lt
  have hB1 : Below w.heap.size w w1 := hb.trans (hb1.mono hb.size)
  clear hb hb1 kR HP
  go_wp2_with (refine store_blk rfl 34 _ _ rfl rfl w.heap.size #[.int .i64 2, .int .i64 s.ep, .int .i64 s.pe, .int .i64 0, .int .i64 0, .slice none 0 0] rfl rfl 34 _ kR1 info_packet rfl (by simp [Value.oneCell']) ?_; intro w2 kR2 hg2 _)
  refine bodyPost_ret (v := .agg #[.int .i64 2, .int .i64 s.ep, .int .i64 s.pe, .int .i64 0, .int .i64 0, .slice none 0 0]) (results_cell_row Try.results33 _ _ w.heap.size 34 _ (0, 0) _ rfl kR2 Try.underlying34 rfl info_packet) rfl ⟨rfl, below_grown hB1 hg2 hB1.size (fun q hq => by cases hq; exact Nat.le_refl _)⟩
end Go.Proofs.Ytichmnbhephkkaa
