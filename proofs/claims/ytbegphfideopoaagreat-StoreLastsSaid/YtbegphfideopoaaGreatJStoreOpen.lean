/-
  What is proved here: a store is opened, where what is found makes pairs; on an empty disk these are none.
  Conditions: those that each fact names.
-/
import Derived.Test.YtbegphfideopoaaGreatJStoreAll
namespace Go.Proofs.YtbegphfideopoaaGreat
open Go.RowKit Go.Maps

/-- What replay answers. -/
def RepOut (W : World) (m : PM) (e : Ending) (w' : World) : Prop := ∃ N C', e = .returned (.tuple #[.map (some N), .bool true]) ∧ W.heap.size ≤ N ∧ N < w'.heap.size ∧ ¬ C' N ∧ (∀ q, C' q → W.heap.size ≤ q ∧ q < w'.heap.size) ∧ MapP w' C' N m ∧ Below W.heap.size W w'
def ReplayOk (st : List UInt8) (rs : List (List UInt8)) (m : PM) : Prop := ∀ (W : World) (sv rv : Value) (vs : List Value) (base : Nat), Own W base sv st → Gat W base rv vs rs → Calls Tryz.prog 28 #[sv, rv] W fun e w' => RepOut W m e w'
theorem results2 {fn : Func} {t u : Tmp} (h : fn.results = #[.tmp t, .tmp u]) (tmps : Array Value) (P : Program) (w : World) : (results fn tmps).run P w = .ok (.tuple #[tmps.getD t undef, tmps.getD u undef]) w := by
  simp [results, h]
set_option maxRecDepth 100000 in
set_option maxHeartbeats 2000000 in
theorem decodeNil_any (sv : Value) (base : Nat) (w : World) (hS : Own w base sv []) : Calls Tryz.prog 49 #[sv] w fun e w' => RepOut w [] e w' := by
  obtain ⟨ao, c, rfl⟩ := hS.seg.shapeD
  clear hS
  have hb1 := (Below.refl w.heap.size w).alloc (Nat.le_refl _) (.cells #[.slice ao ([] : List UInt8).length c] 34)
  have hb2 := hb1.alloc hb1.size (.map #[] 0)
  have hMP := MapP.made (w.alloc (.cells #[.slice ao ([] : List UInt8).length c] 34)) (fun _ => False)
  have hs1 : (w.alloc (.cells #[.slice ao ([] : List UInt8).length c] 34)).heap.size = w.heap.size + 1 := by simp
  have HF : Hid (RepOut w [] (.returned (.tuple #[.map (some (w.alloc (.cells #[.slice ao ([] : List UInt8).length c] 34)).heap.size), .bool true])) ((w.alloc (.cells #[.slice ao ([] : List UInt8).length c] 34)).alloc (.map #[] 0))) :=
    ⟨_, _, rfl, by rw [hs1]; omega, hMP.lt, id, fun _ h => h.elim, hMP, hb2⟩
  rw [hs1] at HF
  clear hs1 hb1 hb2 hMP
  rw [List.length_nil] at HF ⊢
  have hmk := fun W : World => run_makeMap (P := Tryz.prog) 71 W
  go_enter Tryz.func49, Tryz.ntmps49
  go_wp2_with fail
  obtain ⟨w2, hw2⟩ : ∃ W, W = (w.alloc (.cells #[.slice ao 0 c] 34)).alloc (.map #[] 0) := ⟨_, rfl⟩
  have d0 : w2.cell? ⟨w.heap.size, 0, none⟩ = some (.slice ao 0 c) := by
    rw [hw2]
    exact ((Blk.new w 34 #[.slice ao 0 c]).alloc (.map #[] 0)).cell (j := 0) rfl
  rw [← hw2] at HF ⊢
  clear hw2 hmk
  go_loopw [6] (fun _ wr => wr = w2) (fun _ _ => 0)
  case atStart => exact rfl
  case round =>
    obtain rfl := hrel
    go_wp2_with fail
    (try simp only [Exit.inBlock, Exit.then])
    refine bodyPost_ret (results2 rfl _ _ _) rfl ?_
    exact HF.out
set_option maxRecDepth 100000 in
set_option maxHeartbeats 2000000 in
theorem replay_nil : ReplayOk [] [] [] := by
  intro W sv rv vs base hS hG
  have HD := decodeNil_any sv base W hS
  obtain ⟨sa, sc, rfl⟩ := hS.seg.shapeD
  obtain ⟨ra, rc, rfl⟩ := hG.sl
  clear hS hG
  go_enter Tryz.func28, Tryz.ntmps28
  go_wp2_with fail
  refine HD.mono ?_
  rintro e w1 ⟨N, C', rfl, h1, h2, h3, h4, hM, hb⟩
  have hl := hM.len 3
  have HF : Hid (RepOut W [] (.returned (.tuple #[.map (some N), .bool true])) w1) := ⟨N, C', rfl, h1, h2, h3, h4, hM, hb⟩
  clear hM HD h1 h2 h3 h4 hb
  rw [List.length_nil] at hl
  go_wp2_with fail
  go_loopw [21] (fun i wr => i = .int .i64 0 ∧ wr = w1) (fun _ _ => 0)
  case atStart => exact ⟨rfl, rfl⟩
  case round =>
    obtain ⟨rfl, rfl⟩ := hrel
    go_wp2_with fail
    (try simp only [Exit.inBlock, Exit.then])
    refine bodyPost_ret (results2 rfl _ _ _) rfl ?_
    exact HF.out
/-- A store on a disk, opened. -/
def Opened (w : World) (L : PLay) (C : Nat → Prop) (x : SS) (e : Ending) (w' : World) : Prop := ∃ SG, e = .returned (.tuple #[.pointer (some ⟨SG, 0, none⟩), .int .i64 0]) ∧ PSt w' SG L (Fr C w w') x ∧ w.heap.size ≤ SG ∧ Chg C w w'
set_option maxRecDepth 100000 in
set_option maxHeartbeats 2000000 in
theorem open_any8 {w : World} {L : PLay} {C : Nat → Prop} {s : DS} (hD : OD w L C s) (he : openE s = 0) {m : PM} (hRO : ReplayOk (foundS s).1 (foundS s).2 m) (hp : PairsR m) (hml : m.length ≤ 4000) (hms : sizeM m ≤ 1000000) {t : DS} {l : LS} (hck : checkW s (openL s) (stateM m) = (0, t, l)) :
    Calls Tryz.prog 12 #[.pointer (some ⟨L.g, 0, none⟩)] w fun e w' => Opened w L C ⟨t, l, m, false⟩ e w' := by
  have hlt := hD.lt
  go_enter Tryz.func12, Tryz.ntmps12
  go_wp2_with fail
  refine (open_any L C s w hD he).mono ?_
  rintro e w1 ⟨G, sv, rv, vs, rfl, hP1, hG1, hO1, hA1, hb1⟩
  have HRP := hRO w1 sv rv vs _ hO1 hA1
  obtain ⟨sa, sc, rfl⟩ := hO1.seg.shapeD
  obtain ⟨ra, rc, rfl⟩ := hA1.sl
  have hlG := hP1.lt G (.inr rfl)
  clear hO1 hA1 hRO hD
  go_wp2_with fail
  refine HRP.mono ?_
  rintro e w2 ⟨N, C', rfl, hN1, hN2, hCN, hC', hM2, hb2⟩
  have hP2 := hP1.after hb2
  have HEN := encode_any8 N C' m w2 hM2 hp (by omega)
  clear HRP
  go_wp2_with fail
  refine HEN.mono ?_
  rintro e w3 ⟨ev, rfl, hO3, hb3⟩
  have hP3 := hP2.after hb3
  have hM3 := hM2.after hb3
  have HCK := pb_check hP3 ev (stateM m) hO3.seg (by rw [stateM_len]; exact hms)
  rw [hck] at HCK
  clear HEN hP1 hP2
  go_wp2_with fail
  refine HCK.mono ?_
  rintro e w4 ⟨rfl, hP4, hc4⟩
  have hl3 : ∀ q, (fun q => C q ∨ q = G) q → q < w1.heap.size := fun q hq => by
    rcases hq with e | rfl
    · exact Nat.lt_of_lt_of_le (hlt q e) hb1.size
    · exact hlG
  have hM4 := hM3.chg hc4 (fun e => by have := hl3 _ e; omega) (fun q hq e => by have := hl3 _ e; have := (hC' q hq).1; omega)
  have hb5 := (Below.refl w4.heap.size w4).alloc (Nat.le_refl _) (.cells #[.pointer (some ⟨G, 0, none⟩), .map (some N), .bool false] 77)
  have hk5 := Blk.new w4 77 #[.pointer (some ⟨G, 0, none⟩), .map (some N), .bool false]
  have hP5 := hP4.after hb5
  have hM5 := hM4.after hb5
  have hc0 : Chg C w w3 := Chg.of_below (blift (blift hb1 hb2 hb1.size) hb3 (Nat.le_trans hb1.size hb2.size)) (Nat.le_refl _)
  have hC5 : Chg C w (w4.alloc (.cells #[.pointer (some ⟨G, 0, none⟩), .map (some N), .bool false] 77)) := (hc0.trans hc4 (fun k hk hq => by
    rcases hq with e | rfl
    · exact e
    · omega)).trans (Chg.of_below (S := fun _ => False) hb5 (Nat.le_refl _)) (fun _ _ h => h.elim)
  have hs3 : w1.heap.size ≤ w3.heap.size := Nat.le_trans hb2.size hb3.size
  have hs4 := hc4.size
  have hs0 := hb1.size
  have hsc := hc0.size
  have hs5 : w4.heap.size < (w4.alloc (.cells #[.pointer (some ⟨G, 0, none⟩), .map (some N), .bool false] 77)).heap.size := hk5.lt
  have h23 := hb3.size
  have HF : Hid (Opened w L C ⟨t, l, m, false⟩ (.returned (.tuple #[.pointer (some ⟨w4.heap.size, 0, none⟩), .int .i64 0])) (w4.alloc (.cells #[.pointer (some ⟨G, 0, none⟩), .map (some N), .bool false] 77))) := by
    refine ⟨w4.heap.size, rfl, ⟨⟨G, N, Fr (fun q => C q ∨ q = G) w3 w4, C', ⟨hP5, hk5, hM5, fun q hq e => ?_, ⟨fun e => ?_, fun e => ?_⟩, ⟨fun e => ?_, hCN⟩, fun q hq => ?_⟩, fun q hq => ?_, fun q hq => ?_, ?_, ?_⟩, fr_lt hlt hC5.size, hp, hml, hms⟩, by omega, hC5⟩
    · have := hC' q hq
      rcases e with e | e
      · have := hl3 q e; omega
      · omega
    · rcases e with e | e
      · have := hl3 _ e; omega
      · omega
    · have := hC' _ e; omega
    · rcases e with e | e
      · have := hl3 _ e; omega
      · omega
    · have := hC' q hq; omega
    · rcases hq with (e | rfl) | e
      · exact .inl e
      · exact .inr ⟨by omega, by omega⟩
      · exact .inr ⟨by omega, by omega⟩
    · have := hC' q hq
      exact .inr ⟨by omega, by omega⟩
    · exact .inr ⟨by omega, hs5⟩
    · exact .inr ⟨by omega, by omega⟩
  clear hP4 hP5 hM4 hM5 hM3 hM2 hP3 HCK hO3
  go_wp2_with fail
  (try simp only [Exit.inBlock, Exit.then])
  refine bodyPost_ret (results2 rfl _ _ _) rfl ?_
  exact HF.out
end Go.Proofs.YtbegphfideopoaaGreat
