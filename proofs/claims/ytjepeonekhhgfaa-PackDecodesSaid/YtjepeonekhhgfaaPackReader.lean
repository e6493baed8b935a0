/-
  What is proved here: pack's reader takes a record, and the values in it.
  Conditions: those that each fact names.
-/
import Derived.Test.YtjepeonekhhgfaaPackListR
import Derived.Test.YtjepeonekhhgfaaPackRec
import Derived.Deep.RegionWith
namespace Go.Proofs.Ytjepeonekhhgfaa
open Go.RowKit

theorem ValsK.mono {w : World} {S S' : Nat → Prop} {k : Nat} {v : Value} {l : List Val} (h : ValsK w S k v l) (hS : ∀ b, S b → S' b) : ValsK w S' k v l := h.step (Agree.refl _ _) (fun b _ hb => hS b hb)
theorem VOkK.mono {w : World} {S S' : Nat → Prop} {k : Nat} {x : Val} {bv lv : Value} (h : VOkK w S k x bv lv) (hS : ∀ b, S b → S' b) : VOkK w S' k x bv lv := h.step (Agree.refl _ _) (fun b _ hb => hS b hb)
theorem Reads.lt {w0 w : World} {g : Nat} {s : List UInt8} (h : Reads w0 w g s) : g < w.heap.size := by obtain ⟨_, _, _, _, hb, _⟩ := h; exact hb.lt
def recSaid (r : Nat) : Prop := ∀ (n : Nat) (lv : Value) (l : List Fld) (M : Nat) (s : List UInt8) (g : Nat) (w0 w : World), mostL r l = some M → Flds w0 n lv l → Reads w0 w g s →
    Calls Try.prog 28 #[.pointer (some ⟨g, 0, none⟩), lv] w fun e w' => takePost w0 w g (decL r l s) (fun v val w' => ValsK w' (fun b => w.heap.size ≤ b) r val v) (.slice none 0 0) e w'
def valSaid (r : Nat) : Prop := ∀ (n : Nat) (f : Fld) (o : Value) (a : Nat) (s : List UInt8) (g : Nat) (w0 w : World), mostOne (mostL r) f = some a → f.max < 18446744073709551616 → Flds w0 n o f.of → Reads w0 w g s →
    Calls Try.prog 36 #[.pointer (some ⟨g, 0, none⟩), fldV f o] w fun e w' => takePost w0 w g (oneD (decL r) f s) (fun x v w' => NewV r w.heap.size x v w') zeroV e w'

set_option maxRecDepth 100000 in
set_option maxHeartbeats 1000000 in
theorem val1_any (r : Nat) (hr : recSaid r) (n : Nat) (f : Fld) (o : Value) (M : Nat) (w0 : World) (g : Nat) (hM : mostL r f.of = some M) (hF : Flds w0 n o f.of) : val1Said r f o w0 g := by
  intro i br bl s w hR hC
  have HC : Hid (Calls Try.prog 28 #[.pointer (some ⟨g, 0, none⟩), o] w fun e w' => takePost w0 w g (decL r f.of s) (fun v val w' => ValsK w' (fun b => w.heap.size ≤ b) r val v) (.slice none 0 0) e w') := hr n o f.of M s g w0 w hM hF hR
  have c0 := hC.r.cell (j := 0) rfl
  have c3 := hC.l.cell (j := 3) rfl
  obtain ⟨res, hres⟩ : ∃ res, res = decL r f.of s := ⟨_, rfl⟩
  rw [← hres] at HC ⊢
  clear hres hr
  go_enter Try.func46, Try.ntmps46
  cases res with
  | none =>
    go_wp2_with (go_at_call 28; refine HC.out.mono ?_; rintro e w3 ⟨⟨s3, rfl, hR3⟩, hg3⟩)
    go_ret2
    exact ⟨⟨s3, rfl, hR3⟩, hg3⟩
  | some q =>
    go_wp2_with (go_at_call 28; refine HC.out.mono ?_; rintro e w3 ⟨⟨v3, rfl, hv3, hR3⟩, hg3⟩; obtain ⟨a3, n3, c3, rfl⟩ := vals_form (hv3 _ (Agree.refl _ _)))
    go_ret2
    exact ⟨⟨_, rfl, hv3, hR3⟩, hg3⟩

theorem results_pair {P : Program} {fn : Func} {p u : Tmp} {ty : TypeId} (h : fn.results = #[.cell p ty, .tmp u]) (tmps : Array Value) (w : World) (g : Nat) (t : TypeId) (cs : Array Value) (fr : Nat × Nat) (d : TypeDesc) (v : Value)
    (hp : tmps.getD p undef = .pointer (some ⟨g, 0, none⟩)) (hv : tmps.getD u undef = v) (hg : w.heap[g]? = some (.cells cs t fr))
    (hu : P.underlying ty = some d) (hd : (match d with | .struct _ | .array _ _ => true | _ => false) = true) (hi : (P.info? ty).map (·.size) = some cs.size) :
    (results fn tmps).run P w = .ok (.tuple #[.agg cs, v]) w := by
  have hp' : tmps[p]?.getD undef = .pointer (some ⟨g, 0, none⟩) := by simpa using hp
  have hv' : tmps[u]?.getD undef = v := by simpa using hv
  simp [results, h, hp', hv', asAddr, run_loadVar_row w g t ty cs fr d hg hu hd hi]
theorem Try.size42r : (Try.prog.info? 42).map (·.size) = some 3 := by kernel_rfl
theorem set3 {w : World} {g : Nat} {v0 v1 v2 : Value} {arr : Array Value} (h : Blk w g 42 arr) (ha : arr.size = 3) : Blk (((w.setCell ⟨g, 0, none⟩ v0).setCell ⟨g, 1, none⟩ v1).setCell ⟨g, 2, none⟩ v2) g 42 #[v0, v1, v2] ∧ w.grownBy (((w.setCell ⟨g, 0, none⟩ v0).setCell ⟨g, 1, none⟩ v1).setCell ⟨g, 2, none⟩ v2) (some g) := by
  refine ⟨(((h.set 0 v0).set 1 v1).set 2 v2).of_eq ?_, grown_trans (grown_trans (grown_set _ _ _ _) (grown_set _ _ _ _)) (grown_set _ _ _ _)⟩
  match arr, ha with
  | ⟨[a, b, c]⟩, _ => rfl

set_option maxRecDepth 100000 in
set_option maxHeartbeats 1000000 in
theorem rec1_any (r : Nat) (hv : valSaid r) (n : Nat) (l : List Fld) (lv : Value) (M : Nat) (w0 : World) (g : Nat) (hM : mostSum (mostL r) l = some M) (hF : Flds w0 n lv l) : rec1Said r l lv w0 g := by
  intro i f br bl s w hf hR hC
  obtain ⟨ao, c, rfl, hlm, hFc⟩ := hF.form
  unfold maxLen at hlm
  have hil : i < l.length := (List.getElem?_eq_some_iff.1 hf).1
  obtain ⟨bF, offF, rfl, hbF, hcF, hFa⟩ := hFc (by omega)
  obtain ⟨f0, f1, f2, ⟨o, f3, hof⟩, hmn, hmx⟩ := hFa i f hf
  obtain ⟨a, S', hmo, _, _⟩ := mostSum_part _ l M i f hM hf
  have hb0 : Below w.heap.size w (w.alloc (.cells #[.int .u64 0, .slice none 0 0, .slice none 0 0] 42)) := (Below.refl _ _).alloc (Nat.le_refl _) _
  have hv0 : Blk (w.alloc (.cells #[.int .u64 0, .slice none 0 0, .slice none 0 0] 42)) w.heap.size 42 #[.int .u64 0, .slice none 0 0, .slice none 0 0] := Blk.new _ _ _
  have HC : Hid (∀ W, Below w.heap.size w W → Calls Try.prog 36 #[.pointer (some ⟨g, 0, none⟩), fldV f o] W fun e w' => takePost w0 W g (oneD (decL r) f s) (fun x v w' => NewV r W.heap.size x v w') zeroV e w') := fun W hW => hv _ f o a s g w0 W hmo hmx hof (hR.below hW)
  have K := (Keeps.of_below hR.2.1 (Nat.le_refl _)).trans (Keeps.of_below hb0 (Nat.le_refl _))
  have d0 := K.cell f0
  have d1 := K.cell f1
  have d2 := K.cell f2
  have d3 := K.cell f3
  have c0 := (hC.r.below hb0 hC.r.lt).cell (j := 0) rfl
  have c1 := (hC.l.below hb0 hC.l.lt).cell (j := 0) rfl
  obtain ⟨len, hle⟩ : ∃ len, l.length = len := ⟨_, rfl⟩
  rw [hle] at hil hlm hcF c1
  have i1 : (i : Int) < (len : Int) := by omega
  have hgw := hR.lt
  clear hle hF hFc hFa hv
  obtain ⟨res, hres⟩ : ∃ res, res = oneD (decL r) f s := ⟨_, rfl⟩
  rw [← hres] at HC ⊢
  clear hres
  unfold fldV zeroV at HC
  unfold zeroV
  go_enter Try.func35, Try.ntmps35
  cases res with
  | none =>
    go_wp2_with fail
    go_region_with (go_at_call 36; refine (HC.out _ (by exact hb0.drew)).mono ?_; rintro e w3 ⟨⟨s3, rfl, hR3⟩, hg3⟩; have hv3 := hv0.drew.grown hg3 (fun e => by have := Option.some.inj e; omega); have e0 := hv3.cell (j := 0) rfl; have e1 := hv3.cell (j := 1) rfl; have e2 := hv3.cell (j := 2) rfl; have z0 := hv3.frozen 0; have z1 := hv3.frozen 1; have z2 := hv3.frozen 2)
    all_goals go_wp2
    all_goals (have hv4 := set3 (v0 := .int .u64 0) (v1 := .slice none 0 0) (v2 := .slice none 0 0) hv3 rfl)
    all_goals (refine bodyPost_ret (v := .tuple #[.agg #[.int .u64 0, .slice none 0 0, .slice none 0 0], .bool false]) (results_pair Try.results35 _ _ w.heap.size 42 _ (0, 0) _ _ rfl rfl hv4.1 Try.underlying42 rfl Try.size42r) rfl ?_)
    all_goals exact ⟨⟨s3, rfl, hR3.grown hv4.2 (fun e => by have := Option.some.inj e; omega) (fun q hq => by have := Option.some.inj hq; have := hR.1; omega)⟩, grown_own (grown_trans (grows_below hb0.drew (some g)) hg3) hv4.2 (fun q hq => by have := Option.some.inj hq; omega)⟩
  | some q =>
    go_wp2_with fail
    go_region_with (go_at_call 36; refine (HC.out _ (by exact hb0.drew)).mono ?_; rintro e w3 ⟨⟨v3, rfl, ⟨ab, nb, cb, al, nl, cl, rfl, hx3⟩, hR3⟩, hg3⟩; have hv3 := hv0.drew.grown hg3 (fun e => by have := Option.some.inj e; omega); have e0 := hv3.cell (j := 0) rfl; have e1 := hv3.cell (j := 1) rfl; have e2 := hv3.cell (j := 2) rfl; have z0 := hv3.frozen 0; have z1 := hv3.frozen 1; have z2 := hv3.frozen 2)
    all_goals go_wp2
    all_goals (have hv4 := set3 (v0 := .int .u64 (q.1.n : Int)) (v1 := .slice ab nb cb) (v2 := .slice al nl cl) hv3 rfl)
    all_goals (refine bodyPost_ret (v := .tuple #[.agg #[.int .u64 (q.1.n : Int), .slice ab nb cb, .slice al nl cl], .bool true]) (results_pair Try.results35 _ _ w.heap.size 42 _ (0, 0) _ _ rfl rfl hv4.1 Try.underlying42 rfl Try.size42r) rfl ?_)
    all_goals (have hsz : (w.alloc (.cells #[.int .u64 0, .slice none 0 0, .slice none 0 0] 42)).drew.heap.size = w.heap.size + 1 := by simp)
    all_goals exact ⟨⟨_, rfl, ⟨ab, nb, cb, al, nl, cl, rfl, hx3.step ⟨hv4.2.size, fun b o hS hl => World.cell?_of_block (w := w3) (a := ⟨b, o, none⟩) (hv4.2.block b hl (fun e => by have := Option.some.inj e; rw [hsz] at hS; omega))⟩ (fun b _ hb => by rw [hsz] at hb; omega)⟩, hR3.grown hv4.2 (fun e => by have := Option.some.inj e; omega) (fun q hq => by have := Option.some.inj hq; have := hR.1; omega)⟩, grown_own (grown_trans (grows_below hb0.drew (some g)) hg3) hv4.2 (fun q hq => by have := Option.some.inj hq; omega)⟩
end Go.Proofs.Ytjepeonekhhgfaa
