/-
  What is proved here: a map's copy, and what comes of changes, in a map of its own.
  Conditions: those that each fact names.
-/
import Derived.Test.YtbegphfideopoaaGreatJStoreOps
namespace Go.Proofs.YtbegphfideopoaaGreat
open Go.RowKit Go.Maps

set_option maxRecDepth 100000 in
set_option maxHeartbeats 2000000 in
theorem mapsClone_any (b : Nat) (C : Nat → Prop) (m : PM) (w : World) (hM : MapP w C b m) :
    Calls Tryz.prog 62 #[.map (some b)] w fun e w' => e = .returned (.map (some w.heap.size)) ∧ MapP w' C w.heap.size m ∧ Below w.heap.size w w' := by
  obtain ⟨n, D, ⟨es, clock, hb, F, hs, hD⟩, hH⟩ := hM.body
  have hr := hM.rise
  have hal : Below w.heap.size w (w.alloc (.map es clock)) := (Below.refl _ w).alloc (Nat.le_refl _) _
  have HF : Hid (MapP (w.alloc (.map es clock)) C w.heap.size m) := ⟨⟨n, D, ⟨es, clock, (MapKept.heap_alloc w _).1, F, hs, hD⟩, hH.chg (S := fun _ => False) (Chg.of_below hal (Nat.le_refl _)) (fun _ _ => id)⟩, hr⟩
  have hq := fun w => run_eql_map_nil_sl (P := Tryz.prog) w 71 _ _ (some b) Tryz.underlying71
  clear F hs hD hH hr hM
  go_enter Tryz.func62, Tryz.ntmps62
  go_wp2
  rw [run_callFunc_extern Tryz.func92 (by kernel_rfl) (by kernel_rfl) (by kernel_rfl) (e := Extern.MapsClone.clone) (by kernel_rfl), run_maps_clone_sl w 71 hb]
  simp only [Result.andThen]
  rw [Oper.upon_value]
  go_wp2
  rw [run_typeAssert_map_sl _ 71 _ _ _ _ Tryz.underlying71]
  simp only [Result.andThen]
  rw [Oper.upon_value]
  go_wp2
  go_ret
  exact ⟨rfl, HF.out, hal⟩
theorem all_step {cs : List (List OpB)} {I : Nat} {o : List OpB} (m : PM) (h : cs[I]? = some o) : doAll m (cs.take (I + 1)) = doM (doAll m (cs.take I)) o := by
  unfold doAll
  rw [List.take_add_one, h, List.foldl_append]
  rfl
theorem chgR_facts {o : List OpB} (h : chgR o = true) : o.all opR = true ∧ 1 ≤ o.length ∧ o.length ≤ 32 := by
  unfold chgR at h
  simp only [Bool.and_eq_true, decide_eq_true_eq] at h
  exact ⟨h.1.1, h.1.2, h.2⟩
theorem len_all : ∀ (cs : List (List OpB)) (m : PM), cs.all chgR = true → (doAll m cs).length ≤ m.length + 32 * cs.length
  | [], _, _ => Nat.le_refl _
  | c :: cs, m, h => by
    simp only [List.all_cons, Bool.and_eq_true] at h
    have h1 := len_all cs (doM m c) h.2
    have h2 := len_do c m
    have h3 := (chgR_facts h.1).2.2
    show (doAll (doM m c) cs).length ≤ m.length + 32 * (cs.length + 1)
    omega
/-- A new map of such pairs is answered. -/
def NewMap (w : World) (C : Nat → Prop) (m : PM) (e : Ending) (w' : World) : Prop := ∃ N C', e = .returned (.map (some N)) ∧ w.heap.size ≤ N ∧ N < w'.heap.size ∧ ¬ C' N ∧ (∀ q, C' q → Fr C w w' q) ∧ MapP w' C' N m ∧ Below w.heap.size w w'
set_option maxRecDepth 100000 in
set_option maxHeartbeats 4000000 in
theorem behind_any (b : Nat) (C : Nat → Prop) (m : PM) (v : Value) (cs : List (List OpB)) (w : World) (hM : MapP w C b m) (hC : ∀ q, C q → q < w.heap.size) (hv : ChgsV w v cs) (hR : cs.all chgR = true) (hml : m.length + 32 * cs.length ≤ 1000000000) :
    Calls Tryz.prog 33 #[.map (some b), v] w fun e w' => NewMap w C (doAll m cs) e w' := by
  have HV : Hid (∀ W, Below w.heap.size w W → ChgsV W v cs) := fun W hW => hv.below hW (Nat.le_refl _)
  obtain ⟨ao, c, rfl, hm, -⟩ := hv
  unfold maxLen at hm
  have HML : Hid (∀ I, I ≤ cs.length → (doAll m (cs.take I)).length + 32 ≤ 1000000000 ∨ I = cs.length) := fun I hI => by
    have := len_all (cs.take I) m (List.all_eq_true.2 fun x hx => List.all_eq_true.1 hR x (List.mem_of_mem_take hx))
    rw [List.length_take] at this
    omega
  have HRR : Hid (cs.all chgR = true) := hR
  clear hR hml
  go_enter Tryz.func33, Tryz.ntmps33
  go_wp2_with fail
  refine (mapsClone_any b C m w hM).mono ?_
  rintro e w1 ⟨rfl, hM1, hb1⟩
  have hN1 : w.heap.size < w1.heap.size := hM1.lt
  have hCN : ¬ C w.heap.size := fun e => by have := hC _ e; omega
  clear hM
  go_wp2_with fail
  go_loopw [12] (fun i wr => ∃ I : Nat, i = .int .i64 (I : Int) ∧ I ≤ cs.length ∧ MapP wr (Fr C w1 wr) w.heap.size (doAll m (cs.take I)) ∧ Chg (fun q => q = w.heap.size) w1 wr) (fun i _ => cs.length - (intOf i).toNat)
  case atStart => exact ⟨0, rfl, Nat.zero_le _, hM1.mono (fun _ h => .inl h), Chg.refl _ _⟩
  case round =>
    clear hM1
    obtain ⟨I, rfl, hI, hMr, hB⟩ := hrel
    have hBw : Below w.heap.size w wr := hb1.trans (hB.below (fun k hk => by rw [hk]; exact Nat.le_refl _) (Nat.le_of_lt hN1))
    by_cases hlt : I < cs.length
    · have i1 : (I : Int) < (cs.length : Int) := by omega
      have hg : cs[I]? = some cs[I] := List.getElem?_eq_getElem hlt
      obtain ⟨o, ho⟩ : ∃ o, cs[I] = o := ⟨_, rfl⟩
      rw [ho] at hg
      clear ho
      obtain ⟨ao', c', e0, -, hat⟩ := HV.out wr hBw
      cases e0
      obtain ⟨q, off, rfl, hl, u, d0, hu⟩ := hat I o hg
      have hor := chgR_facts (List.all_eq_true.1 HRR.out o (List.mem_of_getElem? hg))
      have HST : Hid (doAll m (cs.take (I + 1)) = doM (doAll m (cs.take I)) o) := all_step m hg
      have hL := HML.out I hI
      have HDO : Hid (Calls Tryz.prog 51 #[.map (some w.heap.size), u] wr fun e w' => e = .returned (.tuple #[]) ∧ MapP w' (Fr (Fr C w1 wr) wr w') w.heap.size (doM (doAll m (cs.take I)) o) ∧ Chg (fun q => q = w.heap.size) wr w') :=
        do_any w.heap.size (Fr C w1 wr) _ u o wr hMr (fun e => by rcases e with e | e; exact hCN e; omega) hu hor.1 (by omega)
      obtain ⟨uo, uc, rfl, -, -⟩ := hu
      clear hg hat hor hL hMr
      have hix := index_chgs q off cs.length c I hlt
      go_wp2_with fail
      refine HDO.out.mono ?_
      rintro e w2 ⟨rfl, hM2, hc2⟩
      have hM3 : MapP w2 (Fr C w1 w2) w.heap.size (doM (doAll m (cs.take I)) o) := hM2.mono (fun q hq => fr_trans hB.size hc2.size q hq)
      have hC3 := hB.trans hc2 (fun _ _ h => h)
      clear hM2
      go_wp2_with fail
      go_roundw
      case rel => exact ⟨I + 1, by go_num, hlt, by rw [HST.out]; exact hM3, hC3⟩
      case measure => simp [intOf]; omega
    · have i1 : ¬ (I : Int) < (cs.length : Int) := by omega
      obtain rfl : I = cs.length := by omega
      rw [List.take_length] at hMr
      have HMR : Hid (MapP wr (Fr C w1 wr) w.heap.size (doAll m cs)) := hMr
      clear hMr
      have hs := hB.size
      go_wp2_with fail
      go_ret
      show NewMap w C (doAll m cs) _ wr
      exact ⟨w.heap.size, Fr C w1 wr, rfl, Nat.le_refl _, by omega, fun e => by rcases e with e | e; exact hCN e; omega, fun q hq => by rcases hq with e | e; exact .inl e; exact .inr ⟨by omega, e.2⟩, HMR.out, hBw⟩
end Go.Proofs.YtbegphfideopoaaGreat
