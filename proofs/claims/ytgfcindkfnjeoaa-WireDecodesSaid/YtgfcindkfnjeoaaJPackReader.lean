/-
  What is proved here: pack's reader takes a record, and the values in it. pack's reader takes a record, if it takes the values in it. pack's reader takes a value, if it takes the records in it. pack.Decode answers the record that was read off all the bytes, or why there is none.
  Conditions: those that each fact names. fields and bytes lie in memory.
-/
import Derived.Test.YtgfcindkfnjeoaaJPackStable
import Derived.Test.YtgfcindkfnjeoaaJPackMost
import Derived.Deep.RegionWith
import Derived.Test.YtgfcindkfnjeoaaJCrcPure
namespace Go.Proofs.Ytgfcindkfnjeoaa
open Go.RowKit

theorem ValsK.mono {w : World} {S S' : Nat → Prop} {k : Nat} {v : Value} {l : List Val} (h : ValsK w S k v l) (hS : ∀ b, S b → S' b) : ValsK w S' k v l := h.step (Agree.refl _ _) (fun b _ hb => hS b hb)
theorem VOkK.mono {w : World} {S S' : Nat → Prop} {k : Nat} {x : Val} {bv lv : Value} (h : VOkK w S k x bv lv) (hS : ∀ b, S b → S' b) : VOkK w S' k x bv lv := h.step (Agree.refl _ _) (fun b _ hb => hS b hb)
theorem Reads.lt {w0 w : World} {g : Nat} {s : List UInt8} (h : Reads w0 w g s) : g < w.heap.size := by obtain ⟨_, _, _, _, hb, _⟩ := h; exact hb.lt
def recSaid (r : Nat) : Prop := ∀ (n : Nat) (lv : Value) (l : List Fld) (M : Nat) (s : List UInt8) (g : Nat) (w0 w : World), mostL r l = some M → Flds w0 n lv l → Reads w0 w g s →
    Calls Try.prog 47 #[.pointer (some ⟨g, 0, none⟩), lv] w fun e w' => takePost w0 w g (decL r l s) (fun v val w' => ValsK w' (fun b => w.heap.size ≤ b) r val v) (.slice none 0 0) e w'
def valSaid (r : Nat) : Prop := ∀ (n : Nat) (f : Fld) (o : Value) (a : Nat) (s : List UInt8) (g : Nat) (w0 w : World), mostOne (mostL r) f = some a → f.max < 18446744073709551616 → Flds w0 n o f.of → Reads w0 w g s →
    Calls Try.prog 65 #[.pointer (some ⟨g, 0, none⟩), fldV f o] w fun e w' => takePost w0 w g (oneD (decL r) f s) (fun x v w' => NewV r w.heap.size x v w') zeroV e w'

set_option maxRecDepth 100000 in
set_option maxHeartbeats 1000000 in
theorem val1_any (r : Nat) (hr : recSaid r) (n : Nat) (f : Fld) (o : Value) (M : Nat) (w0 : World) (g : Nat) (hM : mostL r f.of = some M) (hF : Flds w0 n o f.of) : val1Said r f o w0 g := by
  intro i br bl s w hR hC
  have HC : Hid (Calls Try.prog 47 #[.pointer (some ⟨g, 0, none⟩), o] w fun e w' => takePost w0 w g (decL r f.of s) (fun v val w' => ValsK w' (fun b => w.heap.size ≤ b) r val v) (.slice none 0 0) e w') := hr n o f.of M s g w0 w hM hF hR
  have c0 := hC.r.cell (j := 0) rfl
  have c3 := hC.l.cell (j := 3) rfl
  obtain ⟨res, hres⟩ : ∃ res, res = decL r f.of s := ⟨_, rfl⟩
  rw [← hres] at HC ⊢
  clear hres hr
  go_enter Try.func78, Try.ntmps78
  cases res with
  | none =>
    go_wp2_with (go_at_call 47; refine HC.out.mono ?_; rintro e w3 ⟨⟨s3, rfl, hR3⟩, hg3⟩)
    go_ret2
    exact ⟨⟨s3, rfl, hR3⟩, hg3⟩
  | some q =>
    go_wp2_with (go_at_call 47; refine HC.out.mono ?_; rintro e w3 ⟨⟨v3, rfl, hv3, hR3⟩, hg3⟩; obtain ⟨a3, n3, c3, rfl⟩ := vals_form (hv3 _ (Agree.refl _ _)))
    go_ret2
    exact ⟨⟨_, rfl, hv3, hR3⟩, hg3⟩

theorem results_pairK {P : Program} {fn : Func} {p u : Tmp} {ty : TypeId} (h : fn.results = #[.cell p ty, .tmp u]) (tmps : Array Value) (w : World) (g : Nat) (t : TypeId) (cs : Array Value) (fr : Nat × Nat) (d : TypeDesc) (v : Value)
    (hp : tmps.getD p undef = .pointer (some ⟨g, 0, none⟩)) (hv : tmps.getD u undef = v) (hg : w.heap[g]? = some (.cells cs t fr))
    (hu : P.underlying ty = some d) (hd : (match d with | .struct _ | .array _ _ => true | _ => false) = true) (hi : (P.info? ty).map (·.size) = some cs.size) :
    (results fn tmps).run P w = .ok (.tuple #[.agg cs, v]) w := by
  have hp' : tmps[p]?.getD undef = .pointer (some ⟨g, 0, none⟩) := by simpa using hp
  have hv' : tmps[u]?.getD undef = v := by simpa using hv
  simp [results, h, hp', hv', asAddr, run_loadVar_row w g t ty cs fr d hg hu hd hi]
theorem Try.size68r : (Try.prog.info? 68).map (·.size) = some 3 := by kernel_rfl
theorem set3 {w : World} {g : Nat} {v0 v1 v2 : Value} {arr : Array Value} (h : Blk w g 68 arr) (ha : arr.size = 3) : Blk (((w.setCell ⟨g, 0, none⟩ v0).setCell ⟨g, 1, none⟩ v1).setCell ⟨g, 2, none⟩ v2) g 68 #[v0, v1, v2] ∧ w.grownBy (((w.setCell ⟨g, 0, none⟩ v0).setCell ⟨g, 1, none⟩ v1).setCell ⟨g, 2, none⟩ v2) (some g) := by
  refine ⟨(((h.set 0 v0).set 1 v1).set 2 v2).of_eq ?_, grown_transB (grown_transB (grown_set _ _ _ _) (grown_set _ _ _ _)) (grown_set _ _ _ _)⟩
  match arr, ha with
  | ⟨[a, b, c]⟩, _ => rfl

set_option maxRecDepth 100000 in
set_option maxHeartbeats 1000000 in
theorem rec1_any (r : Nat) (hv : valSaid r) (n : Nat) (l : List Fld) (lv : Value) (M : Nat) (w0 : World) (g : Nat) (hM : mostSum (mostL r) l = some M) (hF : Flds w0 n lv l) : rec1Said r l lv w0 g := by
  intro i f br bl s w hf hR hC
  obtain ⟨ao, c, rfl, hlm, hFc⟩ := hF.form
  unfold maxLen at hlm
  have hil : i < l.length := (List.getElem?_eq_some_iff.1 hf).1
  obtain ⟨bF, offF, rfl, hbF, hcF, hFa⟩ := hFc (by omega)
  obtain ⟨f0, f1, f2, ⟨o, f3, hof⟩, hmn, hmx⟩ := hFa i f hf
  obtain ⟨a, S', hmo, _, _⟩ := mostSum_part _ l M i f hM hf
  have hb0 : Below w.heap.size w (w.alloc (.cells #[.int .u64 0, .slice none 0 0, .slice none 0 0] 68)) := (Below.refl _ _).alloc (Nat.le_refl _) _
  have hv0 : Blk (w.alloc (.cells #[.int .u64 0, .slice none 0 0, .slice none 0 0] 68)) w.heap.size 68 #[.int .u64 0, .slice none 0 0, .slice none 0 0] := Blk.new _ _ _
  have HC : Hid (∀ W, Below w.heap.size w W → Calls Try.prog 65 #[.pointer (some ⟨g, 0, none⟩), fldV f o] W fun e w' => takePost w0 W g (oneD (decL r) f s) (fun x v w' => NewV r W.heap.size x v w') zeroV e w') := fun W hW => hv _ f o a s g w0 W hmo hmx hof (hR.below hW)
  have K := (Keeps.of_below hR.2.1 (Nat.le_refl _)).trans (Keeps.of_below hb0 (Nat.le_refl _))
  have d0 := K.cell f0
  have d1 := K.cell f1
  have d2 := K.cell f2
  have d3 := K.cell f3
  have c0 := (hC.r.below hb0 hC.r.lt).cell (j := 0) rfl
  have c1 := (hC.l.below hb0 hC.l.lt).cell (j := 0) rfl
  obtain ⟨len, hle⟩ : ∃ len, l.length = len := ⟨_, rfl⟩
  rw [hle] at hil hlm hcF c1
  have i1 : (i : Int) < (len : Int) := by omega
  have hgw := hR.lt
  clear hle hF hFc hFa hv
  obtain ⟨res, hres⟩ : ∃ res, res = oneD (decL r) f s := ⟨_, rfl⟩
  rw [← hres] at HC ⊢
  clear hres
  unfold fldV zeroV at HC
  unfold zeroV
  go_enter Try.func64, Try.ntmps64
  cases res with
  | none =>
    go_wp2_with fail
    go_region_with (go_at_call 65; refine (HC.out _ (by exact hb0.drew)).mono ?_; rintro e w3 ⟨⟨s3, rfl, hR3⟩, hg3⟩; have hv3 := hv0.drew.grown hg3 (fun e => by have := Option.some.inj e; omega); have e0 := hv3.cell (j := 0) rfl; have e1 := hv3.cell (j := 1) rfl; have e2 := hv3.cell (j := 2) rfl; have z0 := hv3.frozen 0; have z1 := hv3.frozen 1; have z2 := hv3.frozen 2)
    all_goals go_wp2
    all_goals (have hv4 := set3 (v0 := .int .u64 0) (v1 := .slice none 0 0) (v2 := .slice none 0 0) hv3 rfl)
    all_goals (refine bodyPost_ret (v := .tuple #[.agg #[.int .u64 0, .slice none 0 0, .slice none 0 0], .bool false]) (results_pairK Try.results64 _ _ w.heap.size 68 _ (0, 0) _ _ rfl rfl hv4.1 Try.underlying68 rfl Try.size68r) rfl ?_)
    all_goals exact ⟨⟨s3, rfl, hR3.grown hv4.2 (fun e => by have := Option.some.inj e; omega) (fun q hq => by have := Option.some.inj hq; have := hR.1; omega)⟩, grown_own (grown_transB (grows_below hb0.drew (some g)) hg3) hv4.2 (fun q hq => by have := Option.some.inj hq; omega)⟩
  | some q =>
    go_wp2_with fail
    go_region_with (go_at_call 65; refine (HC.out _ (by exact hb0.drew)).mono ?_; rintro e w3 ⟨⟨v3, rfl, ⟨ab, nb, cb, al, nl, cl, rfl, hx3⟩, hR3⟩, hg3⟩; have hv3 := hv0.drew.grown hg3 (fun e => by have := Option.some.inj e; omega); have e0 := hv3.cell (j := 0) rfl; have e1 := hv3.cell (j := 1) rfl; have e2 := hv3.cell (j := 2) rfl; have z0 := hv3.frozen 0; have z1 := hv3.frozen 1; have z2 := hv3.frozen 2)
    all_goals go_wp2
    all_goals (have hv4 := set3 (v0 := .int .u64 (q.1.n : Int)) (v1 := .slice ab nb cb) (v2 := .slice al nl cl) hv3 rfl)
    all_goals (refine bodyPost_ret (v := .tuple #[.agg #[.int .u64 (q.1.n : Int), .slice ab nb cb, .slice al nl cl], .bool true]) (results_pairK Try.results64 _ _ w.heap.size 68 _ (0, 0) _ _ rfl rfl hv4.1 Try.underlying68 rfl Try.size68r) rfl ?_)
    all_goals (have hsz : (w.alloc (.cells #[.int .u64 0, .slice none 0 0, .slice none 0 0] 68)).drew.heap.size = w.heap.size + 1 := by simp)
    all_goals exact ⟨⟨_, rfl, ⟨ab, nb, cb, al, nl, cl, rfl, hx3.step ⟨hv4.2.size, fun b o hS hl => World.cell?_of_block (w := w3) (a := ⟨b, o, none⟩) (hv4.2.block b hl (fun e => by have := Option.some.inj e; rw [hsz] at hS; omega))⟩ (fun b _ hb => by rw [hsz] at hb; omega)⟩, hR3.grown hv4.2 (fun e => by have := Option.some.inj e; omega) (fun q hq => by have := Option.some.inj hq; have := hR.1; omega)⟩, grown_own (grown_transB (grows_below hb0.drew (some g)) hg3) hv4.2 (fun q hq => by have := Option.some.inj hq; omega)⟩
end Go.Proofs.Ytgfcindkfnjeoaa
namespace Go.Proofs.Ytgfcindkfnjeoaa
open Go.RowKit

set_option maxRecDepth 100000 in
set_option maxHeartbeats 1000000 in
theorem takeR_any (r : Nat) (hv : valSaid r) : recSaid (r + 1) := by
  intro n lv l M s g w0 w hM hF hR
  obtain ⟨hS, hl1, hl16, hMb⟩ := mostL_succ hM
  obtain ⟨ao, c, hlv, _, _⟩ := hF.form
  have HC0 := listV_any r l lv w0 g (rec1_any r hv n l lv M w0 g hS hF) hl16
  subst hlv
  have hgw := hR.lt
  have hres : decL (r + 1) l s = seqD (oneD (decL r)) l s := rfl
  rw [hres]
  generalize seqD (oneD (decL r)) l = SD at HC0 ⊢
  obtain ⟨W, hW⟩ : ∃ W, W = (w.alloc (.cells #[.pointer (some ⟨g, 0, none⟩)] 98)).alloc (.cells #[.slice ao l.length c] 40) := ⟨_, rfl⟩
  have hb0 : Below w.heap.size w W := by rw [hW]; exact ((Below.refl _ _).alloc (Nat.le_refl _) _).alloc (by simp) _
  have hCap : Cap W g w.heap.size (w.heap.size + 1) 40 #[.slice ao l.length c] := ⟨by rw [hW]; exact (Blk.new _ _ _).alloc _, by rw [hW]; exact Blk.newAt _ _ _ _ (by simp), by omega, by omega⟩
  have HC : Hid (Calls Try.prog 63 #[.int .i64 (l.length : Int), .func (.func 64) #[] #[.pointer (some ⟨w.heap.size, 0, none⟩), .pointer (some ⟨w.heap.size + 1, 0, none⟩)]] W fun e w' => takePost w0 W g (SD s) (fun v val w' => ValsK w' (fun b => W.heap.size ≤ b) (r + 1) val v) (.slice none 0 0) e w') := HC0 _ _ s W (hR.below hb0) hCap
  have sW := hb0.size
  clear HC0 hF hM hS
  obtain ⟨res, hre⟩ : ∃ res, res = SD s := ⟨_, rfl⟩
  rw [← hre] at HC ⊢
  clear hre
  obtain ⟨len, hle⟩ : ∃ len, l.length = len := ⟨_, rfl⟩
  rw [hle] at HC hW hl1 hl16 ⊢
  rw [hW] at HC
  go_enter Try.func47, Try.ntmps47
  cases res with
  | none =>
    go_wp2_with (go_at_call 63; refine HC.out.mono ?_; rw [← hW]; rintro e w3 ⟨⟨s3, rfl, hR3⟩, hg3⟩)
    go_ret2
    exact ⟨⟨s3, rfl, hR3⟩, grown_transB (grows_below hb0 _) hg3⟩
  | some q =>
    go_wp2_with (go_at_call 63; refine HC.out.mono ?_; rw [← hW]; rintro e w3 ⟨⟨v3, rfl, hv3, hR3⟩, hg3⟩; obtain ⟨a3, n3, c3, rfl⟩ := vals_form (hv3 _ (Agree.refl _ _)))
    go_ret2
    exact ⟨⟨_, rfl, hv3.mono (fun b hb => Nat.le_trans sW hb), hR3⟩, grown_transB (grows_below hb0 _) hg3⟩
end Go.Proofs.Ytgfcindkfnjeoaa
namespace Go.Proofs.Ytgfcindkfnjeoaa
open Go.RowKit

theorem run_eql_nil_nil (w : World) (l c : Nat) : (binOp .eql 26 (.slice none l c) (.slice none 0 0)).run Try.prog w = .ok (.bool true) w := by
  have := run_equal_slice_nil (P := Try.prog) w 26 5 none l c Try.underlying26
  simp [binOp, this]
theorem run_eql_bytes_nil (w : World) (a : Addr) (l c : Nat) : (binOp .eql 26 (.slice (some a) l c) (.slice none 0 0)).run Try.prog w = .ok (.bool false) w := by
  have := run_equal_slice_nil (P := Try.prog) w 26 5 (some a) l c Try.underlying26
  simp [binOp, this]

set_option maxRecDepth 100000 in
theorem clone_any (x : Value) (bs : List UInt8) (w : World) (hm : bs.length ≤ 1000000000) (hseg : Seg w x bs) :
    Calls Try.prog 76 #[x] w fun e w' => ∃ v, e = .returned v ∧ Own w' w.heap.size v bs ∧ Below w.heap.size w w' := by
  obtain ⟨ao, c, rfl⟩ := hseg.shape
  cases ao with
  | none =>
    obtain ⟨hc, hn⟩ : bs = [] ∧ c = 0 := by
      rcases hseg with ⟨h, ao', c', h2, h3⟩ | ⟨b, off, c', h2, _⟩
      · simp only [Value.slice.injEq] at h2
        exact ⟨h, h2.2.2.trans (h3 h2.1.symm)⟩
      · simp at h2
    subst hc; subst hn
    have hne := run_eql_nil_nil w 0 0
    go_enter Try.func76, Try.ntmps76
    go_wp2
    go_ret
    exact ⟨_, rfl, ⟨rfl, .inl ⟨rfl, rfl⟩⟩, Below.refl _ _⟩
  | some ad =>
    have hne := run_eql_bytes_nil w ad bs.length c
    go_enter Try.func76, Try.ntmps76
    go_wp2_with (at_builtin; refine app_own _ rfl (.tmp 5) (.tmp 6) rfl w.heap.size _ [] rfl (by exact own_empty _ _ _ rfl (Nat.le_refl _)) _ bs rfl (by exact hseg.alloc _) (by simp; omega) (by simp) ?_; intro v2 w2 ho2 hg2 hv2; rw [List.nil_append] at ho2; have hB2 := below_grown ((Below.refl w.heap.size w).alloc (Nat.le_refl _) _) hg2 (by simp) (fun q hq => by have h2 : w.heap.size = q := Option.some.inj hq; omega))
    go_ret
    exact ⟨_, rfl, ho2, hB2⟩

set_option maxRecDepth 100000 in
theorem clone_nil (w : World) : Calls Try.prog 76 #[.slice none 0 0] w fun e w' => e = .returned (.slice none 0 0) ∧ Below w.heap.size w w' := by
  have hne := run_eql_nil_nil w 0 0
  go_enter Try.func76, Try.ntmps76
  go_wp2
  go_ret
  exact ⟨rfl, Below.refl _ _⟩
theorem vok_num (w : World) (S : Nat → Prop) (k n : Nat) (hn : n < 18446744073709551616) : VOkK w S k (.mk n [] []) (.slice none 0 0) (.slice none 0 0) := fun W _ =>
  ⟨⟨.inl ⟨rfl, none, 0, rfl, fun _ => rfl⟩, Nat.zero_le _⟩, ⟨none, 0, rfl, Nat.zero_le _, fun h => by cases h⟩, hn⟩
theorem vok_bytes {w : World} {S : Nat → Prop} {k base : Nat} {v : Value} {bs : List UInt8} (h : Own w base v bs) (hS : ∀ b, base ≤ b → S b) (hm : bs.length ≤ 1000000) : VOkK w S k (.mk 0 bs []) v (.slice none 0 0) := fun W hW => by
  refine ⟨⟨?_, by show bs.length ≤ maxLen; unfold maxLen; omega⟩, ⟨none, 0, rfl, Nat.zero_le _, fun h => by cases h⟩, by show 0 < _; decide⟩
  show Seg W v bs
  rcases h.2 with ⟨h1, h2⟩ | ⟨g, cap, cur, h1, h2, h3, h4, h5⟩
  · exact .inl ⟨nil_of h2, none, 0, h1, fun _ => rfl⟩
  · have hl : g < w.heap.size := (Array.getElem?_eq_some_iff.1 h3).1
    have hs := Own.seg h
    rcases hs with ⟨h6, ao, c, h7, h8⟩ | ⟨b, off, c, h7, h8, h9, h10⟩
    · exact .inl ⟨h6, ao, c, h7, h8⟩
    · rw [h1] at h7
      cases h7
      refine .inr ⟨g, 0, cap, h1, h8, fun j hj => ?_, Nat.lt_of_lt_of_le hl hW.1⟩
      rw [hW.2 g _ (hS g h2) hl]
      exact h9 j hj
theorem own_sl {w : World} {base : Nat} {v : Value} {bs : List UInt8} (h : Own w base v bs) : ∃ ao c, v = .slice ao bs.length c := by
  rcases h.2 with ⟨h1, h2⟩ | ⟨g, cap, cur, h1, _⟩
  · rw [h2]; exact ⟨_, _, h1⟩
  · exact ⟨_, _, h1⟩
/-- The call's own four blocks. -/
structure Four (W : World) (g base : Nat) (f : Fld) (o : Value) (cs : Array Value) : Prop where
  r : Blk W base 98 #[.pointer (some ⟨g, 0, none⟩)]
  f : Blk W (base + 1) 62 #[.int .i64 f.kind, .int .u64 (f.min : Int), .int .u64 (f.max : Int), o]
  z : Blk W (base + 1 + 1) 68 #[.int .u64 0, .slice none 0 0, .slice none 0 0]
  v : Blk W (base + 1 + 1 + 1) 68 cs
theorem Four.grown {W W' : World} {g base : Nat} {f : Fld} {o : Value} {cs : Array Value} {row : Option Nat} (h : Four W g base f o cs) (hg : W.grownBy W' row) (hr : ∀ q, row = some q → q < base ∨ base + 4 ≤ q) : Four W' g base f o cs :=
  ⟨h.r.grown hg (fun e => by have := hr _ e.symm; omega), h.f.grown hg (fun e => by have := hr _ e.symm; omega), h.z.grown hg (fun e => by have := hr _ e.symm; omega), h.v.grown hg (fun e => by have := hr _ e.symm; omega)⟩

theorem end_some {r g : Nat} {w0 w w2 : World} {s2 : List UInt8} {x : Val} {ab al : Option Addr} {nb cb nl cl : Nat} {arr : Array Value} {zv : Value} (hR2 : Reads w0 w2 g s2) (hG : w.grownBy w2 (some g)) (hgw : g < w.heap.size) (hz : Blk w2 (w.heap.size + 1 + 1) 68 arr) (ha : arr.size = 3) (hx : VOkK w2 (fun b => w.heap.size + 4 ≤ b) r x (.slice ab nb cb) (.slice al nl cl)) :
    takePost w0 w g (some (x, s2)) (fun x v w' => NewV r w.heap.size x v w') zv (.returned (.tuple #[.agg #[.int .u64 (x.n : Int), .slice ab nb cb, .slice al nl cl], .bool true])) (((w2.setCell ⟨w.heap.size + 1 + 1, 0, none⟩ (.int .u64 (x.n : Int))).setCell ⟨w.heap.size + 1 + 1, 1, none⟩ (.slice ab nb cb)).setCell ⟨w.heap.size + 1 + 1, 2, none⟩ (.slice al nl cl)) := by
  have hv4 := set3 (v0 := .int .u64 (x.n : Int)) (v1 := .slice ab nb cb) (v2 := .slice al nl cl) hz ha
  have h0 := hR2.1
  exact ⟨⟨_, rfl, ⟨ab, nb, cb, al, nl, cl, rfl, hx.step ⟨hv4.2.size, fun b o hS hl => World.cell?_of_block (w := w2) (a := ⟨b, o, none⟩) (hv4.2.block b hl (fun e => by have := Option.some.inj e; omega))⟩ (fun b _ hb => by omega)⟩, hR2.grown hv4.2 (fun e => by have := Option.some.inj e; omega) (fun q hq => by have := Option.some.inj hq; omega)⟩, grown_own hG hv4.2 (fun q hq => by have := Option.some.inj hq; omega)⟩
theorem end_none {r g : Nat} {w0 w w2 : World} {s2 : List UInt8} {arr : Array Value} (hR2 : Reads w0 w2 g s2) (hG : w.grownBy w2 (some g)) (hgw : g < w.heap.size) (hz : Blk w2 (w.heap.size + 1 + 1) 68 arr) (ha : arr.size = 3) :
    takePost w0 w g none (fun x v w' => NewV r w.heap.size x v w') (.agg #[.int .u64 0, .slice none 0 0, .slice none 0 0]) (.returned (.tuple #[.agg #[.int .u64 0, .slice none 0 0, .slice none 0 0], .bool false])) (((w2.setCell ⟨w.heap.size + 1 + 1, 0, none⟩ (.int .u64 0)).setCell ⟨w.heap.size + 1 + 1, 1, none⟩ (.slice none 0 0)).setCell ⟨w.heap.size + 1 + 1, 2, none⟩ (.slice none 0 0)) := by
  have hv4 := set3 (v0 := .int .u64 0) (v1 := .slice none 0 0) (v2 := .slice none 0 0) hz ha
  have h0 := hR2.1
  exact ⟨⟨s2, rfl, hR2.grown hv4.2 (fun e => by have := Option.some.inj e; omega) (fun q hq => by have := Option.some.inj hq; omega)⟩, grown_own hG hv4.2 (fun q hq => by have := Option.some.inj hq; omega)⟩

set_option maxRecDepth 100000 in
set_option maxHeartbeats 4000000 in
theorem takeV_any (r : Nat) (hr : recSaid r) : valSaid r := by
  intro n f o a s g w0 w hmo hmx hof hR
  have hmm := mostOne_le' hmo
  have HA0 : ∀ W, Reads w0 W g s → Calls Try.prog 74 #[.pointer (some ⟨g, 0, none⟩), fldV f o] W fun e w' => takePost w0 W g (amtD f s) (fun n v _ => v = .int .u64 (n : Int)) (.int .u64 0) e w' := fun W hW => takeAmount_any f o hmm hmx s g w0 W hW
  obtain ⟨res, hre⟩ : ∃ res, res = oneD (decL r) f s := ⟨_, rfl⟩
  rw [← hre]
  have HRES : Hid (res = oneD (decL r) f s) := hre
  clear hre
  have hgw := hR.lt
  unfold fldV at *
  unfold zeroV
  obtain ⟨W, hW⟩ : ∃ W, W = ((((w.alloc (.cells #[.pointer (some ⟨g, 0, none⟩)] 98)).alloc (.cells #[.int .i64 f.kind, .int .u64 (f.min : Int), .int .u64 (f.max : Int), o] 62)).alloc (.cells #[.int .u64 0, .slice none 0 0, .slice none 0 0] 68)).alloc (.cells #[.int .u64 0, .slice none 0 0, .slice none 0 0] 68)) := ⟨_, rfl⟩
  have hb0 : Below w.heap.size w W := by rw [hW]; exact ((((Below.refl _ _).alloc (Nat.le_refl _) _).alloc (by simp) _).alloc (by simp; omega) _).alloc (by simp; omega) _
  have hs0 : W.heap.size = w.heap.size + 4 := by rw [hW]; simp
  have hF0 : Four W g w.heap.size f o #[.int .u64 0, .slice none 0 0, .slice none 0 0] := ⟨by rw [hW]; exact (((Blk.new _ _ _).alloc _).alloc _).alloc _, by rw [hW]; exact ((Blk.newAt _ _ _ _ (by simp)).alloc _).alloc _, by rw [hW]; exact (Blk.newAt _ _ _ _ (by simp)).alloc _, by rw [hW]; exact Blk.newAt _ _ _ _ (by simp)⟩
  have HA : Hid (Calls Try.prog 74 #[.pointer (some ⟨g, 0, none⟩), .agg #[.int .i64 f.kind, .int .u64 (f.min : Int), .int .u64 (f.max : Int), o]] W fun e w' => takePost w0 W g (amtD f s) (fun n v _ => v = .int .u64 (n : Int)) (.int .u64 0) e w') := HA0 W (hR.below hb0)
  clear HA0
  rw [hW] at HA
  cases ham : amtD f s with
  | none =>
    have HE : Hid (res = none) := by show _ = _; rw [HRES.out]; unfold oneD; rw [ham]; rfl
    rw [ham] at HA
    clear ham
    go_enter Try.func65, Try.ntmps65
    go_wp2_with (go_at_call 74; refine HA.out.mono ?_; rw [← hW]; rintro e w1 ⟨⟨s1, rfl, hR1⟩, hg1⟩; have hF1 := hF0.grown hg1 (fun q hq => by have := Option.some.inj hq; omega); have v0 := hF1.v.cell (j := 0) rfl; have v1 := hF1.v.cell (j := 1) rfl; have v2 := hF1.v.cell (j := 2) rfl; have z0 := hF1.z.cell (j := 0) rfl; have z1 := hF1.z.cell (j := 1) rfl; have z2 := hF1.z.cell (j := 2) rfl; have y0 := hF1.z.frozen 0; have y1 := hF1.z.frozen 1; have y2 := hF1.z.frozen 2)
    have hv4 := set3 (v0 := .int .u64 0) (v1 := .slice none 0 0) (v2 := .slice none 0 0) hF1.z rfl
    refine bodyPost_ret (v := .tuple #[.agg #[.int .u64 0, .slice none 0 0, .slice none 0 0], .bool false]) (results_pairK Try.results65 _ _ (w.heap.size + 1 + 1) 68 _ (0, 0) _ _ rfl rfl hv4.1 Try.underlying68 rfl Try.size68r) rfl ?_
    rw [HE.out]
    exact ⟨⟨s1, rfl, hR1.grown hv4.2 (fun e => by have := Option.some.inj e; omega) (fun q hq => by have := Option.some.inj hq; have := hR.1; omega)⟩, grown_own (grown_transB (grows_below hb0 (some g)) hg1) hv4.2 (fun q hq => by have := Option.some.inj hq; omega)⟩
  | some q =>
    obtain ⟨m, s1⟩ := q
    rw [ham] at HA
    have HRS : Hid (res = if f.kind = 1 then some (.mk m [] [], s1) else if f.kind = 2 then (if m ≤ s1.length then some (.mk 0 (s1.take m) [], s1.drop m) else none) else (manyD (decL r f.of) m s1).map fun q => (.mk 0 [] q.1, q.2)) := by show _ = _; rw [HRES.out]; unfold oneD; rw [ham]; rfl
    obtain ⟨g1, g2, _⟩ := amtD_enc ham hmm
    clear ham
    by_cases hk1 : f.kind = 1
    · have HE : Hid (res = some (.mk m [] [], s1)) := by show _ = _; rw [HRS.out, if_pos hk1]
      have j1 : (f.kind == 1) = true := by simpa using hk1
      clear hk1
      go_enter Try.func65, Try.ntmps65
      go_wp2_with (go_at_call 74; refine HA.out.mono ?_; rw [← hW]; rintro e w1 ⟨⟨n1, rfl, rfl, hR1⟩, hg1⟩; have hF1 := hF0.grown hg1 (fun q hq => by have := Option.some.inj hq; omega); have f0 := hF1.f.cell (j := 0) rfl; have v0 := hF1.v.cell (j := 0) rfl; have v1 := hF1.v.cell (j := 1) rfl; have v2 := hF1.v.cell (j := 2) rfl; have z0 := hF1.z.cell (j := 0) rfl; have z1 := hF1.z.cell (j := 1) rfl; have z2 := hF1.z.cell (j := 2) rfl; have y0 := hF1.z.frozen 0; have y1 := hF1.z.frozen 1; have y2 := hF1.z.frozen 2; have x0 := hF1.v.frozen 0; have x1 := hF1.v.frozen 1; have x2 := hF1.v.frozen 2)
      have hG1 := grown_transB (grows_below hb0 (some g)) hg1
      have hg2 := grown_set w1 (w.heap.size + 1 + 1 + 1) 0 (.int .u64 (m : Int))
      have hz2 := hF1.z.grown hg2 (fun e => by have := Option.some.inj e; omega)
      refine bodyPost_ret (v := .tuple #[.agg #[.int .u64 (m : Int), .slice none 0 0, .slice none 0 0], .bool true]) (results_pairK Try.results65 _ _ (w.heap.size + 1 + 1) 68 _ (0, 0) _ _ rfl rfl (set3 hz2 rfl).1 Try.underlying68 rfl Try.size68r) rfl ?_
      rw [HE.out]
      exact end_some (x := .mk m [] []) (hR1.grown hg2 (fun e => by have := Option.some.inj e; omega) (fun q hq => by have := Option.some.inj hq; have := hR.1; omega)) (grown_own hG1 hg2 (fun q hq => by have := Option.some.inj hq; omega)) hgw hz2 rfl (vok_num _ _ _ _ (by omega))
    have hm6 : m ≤ 65536 := by
      rcases mostOne_min hmo with h | h
      · omega
      · exact absurd h.1 hk1
    have j1 : (f.kind == 1) = false := by simpa using hk1
    by_cases hk2 : f.kind = 2
    · have j2 : (f.kind == 2) = true := by simpa using hk2
      have HT : Hid (∀ W, Reads w0 W g s1 → Calls Try.prog 75 #[.pointer (some ⟨g, 0, none⟩), .int .i64 (m : Int)] W fun e w' => takePost w0 W g (if m ≤ s1.length then some (s1.take m, s1.drop m) else none) (fun b v _ => Seg w0 v b) (.slice none 0 0) e w') := fun W hW => takeBytes_any m (by unfold maxLen; omega) s1 g w0 W hW
      by_cases hl : m ≤ s1.length
      · simp only [if_pos hl] at HT
        have HE : Hid (res = some (.mk 0 (s1.take m) [], s1.drop m)) := by show _ = _; rw [HRS.out, if_neg hk1, if_pos hk2, if_pos hl]
        have HB : Hid ((s1.take m).length = m) := by show _ = _; rw [List.length_take]; omega
        clear hk1 hk2 HRS HRES
        generalize s1.take m = bs2 at *
        go_enter Try.func65, Try.ntmps65
        go_wp2_with (first | (go_at_call 74; refine HA.out.mono ?_; rw [← hW]; rintro e w1 ⟨⟨n1, rfl, rfl, hR1⟩, hg1⟩; have hF1 := hF0.grown hg1 (fun q hq => by have := Option.some.inj hq; omega); have t1 := hg1.size; have f0 := hF1.f.cell (j := 0) rfl; have r0 := hF1.r.cell (j := 0) rfl; have v0 := hF1.v.cell (j := 0) rfl; have v1 := hF1.v.cell (j := 1) rfl; have v2 := hF1.v.cell (j := 2) rfl; have z0 := hF1.z.cell (j := 0) rfl; have z1 := hF1.z.cell (j := 1) rfl; have z2 := hF1.z.cell (j := 2) rfl; have y0 := hF1.z.frozen 0; have y1 := hF1.z.frozen 1; have y2 := hF1.z.frozen 2; have x0 := hF1.v.frozen 0; have x1 := hF1.v.frozen 1; have x2 := hF1.v.frozen 2) | (go_at_call 75; refine (HT.out _ (by exact hR1)).mono ?_; rintro e w2 ⟨⟨v2, rfl, hv2, hR2⟩, hg2⟩; obtain ⟨a2, c2, rfl⟩ := hv2.shape; rw [HB.out] at hv2 ⊢; have hF2 := hF1.grown hg2 (fun q hq => by have := Option.some.inj hq; omega); have t2 := hg2.size; have f0 := hF2.f.cell (j := 0) rfl; have r0 := hF2.r.cell (j := 0) rfl; have v0 := hF2.v.cell (j := 0) rfl; have v1 := hF2.v.cell (j := 1) rfl; have v2 := hF2.v.cell (j := 2) rfl; have z0 := hF2.z.cell (j := 0) rfl; have z1 := hF2.z.cell (j := 1) rfl; have z2 := hF2.z.cell (j := 2) rfl; have y0 := hF2.z.frozen 0; have y1 := hF2.z.frozen 1; have y2 := hF2.z.frozen 2; have x0 := hF2.v.frozen 0; have x1 := hF2.v.frozen 1; have x2 := hF2.v.frozen 2) | (go_at_call 76; refine (clone_any _ bs2 _ (by have := HB.out; omega) (by exact hv2.below hR2.2.1 (Nat.le_refl _))).mono ?_; rintro e w3 ⟨v3, rfl, ho3, hb3⟩; obtain ⟨a3, c3, rfl⟩ := own_sl ho3; rw [HB.out] at ho3 ⊢; have hF3 := hF2.grown (grows_below hb3 none) (fun q hq => by cases hq); have f0 := hF3.f.cell (j := 0) rfl; have r0 := hF3.r.cell (j := 0) rfl; have v0 := hF3.v.cell (j := 0) rfl; have v1 := hF3.v.cell (j := 1) rfl; have v2 := hF3.v.cell (j := 2) rfl; have z0 := hF3.z.cell (j := 0) rfl; have z1 := hF3.z.cell (j := 1) rfl; have z2 := hF3.z.cell (j := 2) rfl; have y0 := hF3.z.frozen 0; have y1 := hF3.z.frozen 1; have y2 := hF3.z.frozen 2; have x0 := hF3.v.frozen 0; have x1 := hF3.v.frozen 1; have x2 := hF3.v.frozen 2) | fail)
        have hG2 := grown_transB (grown_transB (grows_below hb0 (some g)) hg1) hg2
        have hG3 := grown_transB hG2 (grows_below hb3 (some g))
        have t3 := hb3.size
        have hg4 := grown_set w3 (w.heap.size + 1 + 1 + 1) 1 (.slice a3 m c3)
        have hz4 := hF3.z.grown hg4 (fun e => by have := Option.some.inj e; omega)
        refine bodyPost_ret (v := .tuple #[.agg #[.int .u64 0, .slice a3 m c3, .slice none 0 0], .bool true]) (results_pairK Try.results65 _ _ (w.heap.size + 1 + 1) 68 _ (0, 0) _ _ rfl rfl (set3 hz4 rfl).1 Try.underlying68 rfl Try.size68r) rfl ?_
        rw [HE.out]
        have hx3 : VOkK w3 (fun b => w.heap.size + 4 ≤ b) r (.mk 0 bs2 []) (.slice a3 m c3) (.slice none 0 0) := vok_bytes ho3 (fun b hb => by omega) (by have := HB.out; omega)
        exact end_some (x := .mk 0 bs2 []) ((hR2.below hb3).grown hg4 (fun e => by have := Option.some.inj e; omega) (fun q hq => by have := Option.some.inj hq; have := hR.1; omega)) (grown_own hG3 hg4 (fun q hq => by have := Option.some.inj hq; omega)) hgw hz4 rfl (hx3.step ⟨hg4.size, fun b o hS hl => World.cell?_of_block (w := w3) (a := ⟨b, o, none⟩) (hg4.block b hl (fun e => by have := Option.some.inj e; omega))⟩ (fun _ _ h => h))
      · simp only [if_neg hl] at HT
        have HE : Hid (res = none) := by show _ = _; rw [HRS.out, if_neg hk1, if_pos hk2, if_neg hl]
        clear hk1 hk2
        go_enter Try.func65, Try.ntmps65
        go_wp2_with (first | (go_at_call 74; refine HA.out.mono ?_; rw [← hW]; rintro e w1 ⟨⟨n1, rfl, rfl, hR1⟩, hg1⟩; have hF1 := hF0.grown hg1 (fun q hq => by have := Option.some.inj hq; omega); have t1 := hg1.size; have f0 := hF1.f.cell (j := 0) rfl; have r0 := hF1.r.cell (j := 0) rfl; have v0 := hF1.v.cell (j := 0) rfl; have v1 := hF1.v.cell (j := 1) rfl; have v2 := hF1.v.cell (j := 2) rfl; have z0 := hF1.z.cell (j := 0) rfl; have z1 := hF1.z.cell (j := 1) rfl; have z2 := hF1.z.cell (j := 2) rfl; have y0 := hF1.z.frozen 0; have y1 := hF1.z.frozen 1; have y2 := hF1.z.frozen 2; have x0 := hF1.v.frozen 0; have x1 := hF1.v.frozen 1; have x2 := hF1.v.frozen 2) | (go_at_call 75; refine (HT.out _ (by exact hR1)).mono ?_; rintro e w2 ⟨⟨s2, rfl, hR2⟩, hg2⟩; have hF2 := hF1.grown hg2 (fun q hq => by have := Option.some.inj hq; omega); have t2 := hg2.size; have f0 := hF2.f.cell (j := 0) rfl; have r0 := hF2.r.cell (j := 0) rfl; have v0 := hF2.v.cell (j := 0) rfl; have v1 := hF2.v.cell (j := 1) rfl; have v2 := hF2.v.cell (j := 2) rfl; have z0 := hF2.z.cell (j := 0) rfl; have z1 := hF2.z.cell (j := 1) rfl; have z2 := hF2.z.cell (j := 2) rfl; have y0 := hF2.z.frozen 0; have y1 := hF2.z.frozen 1; have y2 := hF2.z.frozen 2; have x0 := hF2.v.frozen 0; have x1 := hF2.v.frozen 1; have x2 := hF2.v.frozen 2) | (go_at_call 76; refine (clone_nil _).mono ?_; rintro e w3 ⟨rfl, hb3⟩; have hF3 := hF2.grown (grows_below hb3 none) (fun q hq => by cases hq); have f0 := hF3.f.cell (j := 0) rfl; have r0 := hF3.r.cell (j := 0) rfl; have v0 := hF3.v.cell (j := 0) rfl; have v1 := hF3.v.cell (j := 1) rfl; have v2 := hF3.v.cell (j := 2) rfl; have z0 := hF3.z.cell (j := 0) rfl; have z1 := hF3.z.cell (j := 1) rfl; have z2 := hF3.z.cell (j := 2) rfl; have y0 := hF3.z.frozen 0; have y1 := hF3.z.frozen 1; have y2 := hF3.z.frozen 2; have x0 := hF3.v.frozen 0; have x1 := hF3.v.frozen 1; have x2 := hF3.v.frozen 2) | fail)
        have hG2 := grown_transB (grown_transB (grows_below hb0 (some g)) hg1) hg2
        have hG3 := grown_transB hG2 (grows_below hb3 (some g))
        have t3 := hb3.size
        have hg4 := grown_set w3 (w.heap.size + 1 + 1 + 1) 1 (.slice none 0 0)
        have hz4 := hF3.z.grown hg4 (fun e => by have := Option.some.inj e; omega)
        refine bodyPost_ret (v := .tuple #[.agg #[.int .u64 0, .slice none 0 0, .slice none 0 0], .bool false]) (results_pairK Try.results65 _ _ (w.heap.size + 1 + 1) 68 _ (0, 0) _ _ rfl rfl (set3 hz4 rfl).1 Try.underlying68 rfl Try.size68r) rfl ?_
        rw [HE.out]
        exact end_none ((hR2.below hb3).grown hg4 (fun e => by have := Option.some.inj e; omega) (fun q hq => by have := Option.some.inj hq; have := hR.1; omega)) (grown_own hG3 hg4 (fun q hq => by have := Option.some.inj hq; omega)) hgw hz4 rfl
    have j2 : (f.kind == 2) = false := by simpa using hk2
    obtain ⟨hk3, k, hk, _⟩ := mostOne_of hmo hk1 hk2
    have j3 : (f.kind == 3) = true := by simpa using hk3
    have HL : Hid (∀ W, Reads w0 W g s1 → Four W g w.heap.size f o #[.int .u64 0, .slice none 0 0, .slice none 0 0] → Calls Try.prog 77 #[.int .i64 (m : Int), .func (.func 78) #[] #[.pointer (some ⟨w.heap.size, 0, none⟩), .pointer (some ⟨w.heap.size + 1, 0, none⟩)]] W fun e w' => takePost w0 W g (manyD (decL r f.of) m s1) (fun L val w' => (∃ al nl cl, val = .slice al nl cl) ∧ VOkK w' (fun b => W.heap.size ≤ b) r (.mk 0 [] L) (.slice none 0 0) val) (.slice none 0 0) e w') := fun W hW h4 => listR_any r f o w0 g (val1_any r hr n f o k w0 g hk hof) m hm6 _ _ s1 W hW ⟨h4.r, h4.f, by omega, by omega⟩
    have HE : Hid (res = (manyD (decL r f.of) m s1).map fun q => (.mk 0 [] q.1, q.2)) := by show _ = _; rw [HRS.out, if_neg hk1, if_neg hk2]
    clear hk1 hk2 hk3 HRS HRES hr
    cases hmd : manyD (decL r f.of) m s1 with
    | none =>
      rw [hmd] at HL HE
      clear hmd
      go_enter Try.func65, Try.ntmps65
      go_wp2_with (first | (go_at_call 74; refine HA.out.mono ?_; rw [← hW]; rintro e w1 ⟨⟨n1, rfl, rfl, hR1⟩, hg1⟩; have hF1 := hF0.grown hg1 (fun q hq => by have := Option.some.inj hq; omega); have t1 := hg1.size; have f0 := hF1.f.cell (j := 0) rfl; have r0 := hF1.r.cell (j := 0) rfl; have v0 := hF1.v.cell (j := 0) rfl; have v1 := hF1.v.cell (j := 1) rfl; have v2 := hF1.v.cell (j := 2) rfl; have z0 := hF1.z.cell (j := 0) rfl; have z1 := hF1.z.cell (j := 1) rfl; have z2 := hF1.z.cell (j := 2) rfl; have y0 := hF1.z.frozen 0; have y1 := hF1.z.frozen 1; have y2 := hF1.z.frozen 2; have x0 := hF1.v.frozen 0; have x1 := hF1.v.frozen 1; have x2 := hF1.v.frozen 2) | (go_at_call 77; refine (HL.out _ (by exact hR1) (by exact hF1)).mono ?_; rintro e w2 ⟨⟨s2, rfl, hR2⟩, hg2⟩; have hF2 := hF1.grown hg2 (fun q hq => by have := Option.some.inj hq; omega); have t2 := hg2.size; have f0 := hF2.f.cell (j := 0) rfl; have r0 := hF2.r.cell (j := 0) rfl; have v0 := hF2.v.cell (j := 0) rfl; have v1 := hF2.v.cell (j := 1) rfl; have v2 := hF2.v.cell (j := 2) rfl; have z0 := hF2.z.cell (j := 0) rfl; have z1 := hF2.z.cell (j := 1) rfl; have z2 := hF2.z.cell (j := 2) rfl; have y0 := hF2.z.frozen 0; have y1 := hF2.z.frozen 1; have y2 := hF2.z.frozen 2; have x0 := hF2.v.frozen 0; have x1 := hF2.v.frozen 1; have x2 := hF2.v.frozen 2) | fail)
      have hG2 := grown_transB (grown_transB (grows_below hb0 (some g)) hg1) hg2
      have hg4 := grown_set w2 (w.heap.size + 1 + 1 + 1) 2 (.slice none 0 0)
      have hz4 := hF2.z.grown hg4 (fun e => by have := Option.some.inj e; omega)
      refine bodyPost_ret (v := .tuple #[.agg #[.int .u64 0, .slice none 0 0, .slice none 0 0], .bool false]) (results_pairK Try.results65 _ _ (w.heap.size + 1 + 1) 68 _ (0, 0) _ _ rfl rfl (set3 hz4 rfl).1 Try.underlying68 rfl Try.size68r) rfl ?_
      rw [HE.out]
      exact end_none (hR2.grown hg4 (fun e => by have := Option.some.inj e; omega) (fun q hq => by have := Option.some.inj hq; have := hR.1; omega)) (grown_own hG2 hg4 (fun q hq => by have := Option.some.inj hq; omega)) hgw hz4 rfl
    | some q =>
      obtain ⟨L, s2⟩ := q
      rw [hmd] at HL HE
      clear hmd
      go_enter Try.func65, Try.ntmps65
      go_wp2_with (first | (go_at_call 74; refine HA.out.mono ?_; rw [← hW]; rintro e w1 ⟨⟨n1, rfl, rfl, hR1⟩, hg1⟩; have hF1 := hF0.grown hg1 (fun q hq => by have := Option.some.inj hq; omega); have t1 := hg1.size; have f0 := hF1.f.cell (j := 0) rfl; have r0 := hF1.r.cell (j := 0) rfl; have v0 := hF1.v.cell (j := 0) rfl; have v1 := hF1.v.cell (j := 1) rfl; have v2 := hF1.v.cell (j := 2) rfl; have z0 := hF1.z.cell (j := 0) rfl; have z1 := hF1.z.cell (j := 1) rfl; have z2 := hF1.z.cell (j := 2) rfl; have y0 := hF1.z.frozen 0; have y1 := hF1.z.frozen 1; have y2 := hF1.z.frozen 2; have x0 := hF1.v.frozen 0; have x1 := hF1.v.frozen 1; have x2 := hF1.v.frozen 2) | (go_at_call 77; refine (HL.out _ (by exact hR1) (by exact hF1)).mono ?_; rintro e w2 ⟨⟨v2, rfl, ⟨⟨al, nl, cl, rfl⟩, hx2⟩, hR2⟩, hg2⟩; have hF2 := hF1.grown hg2 (fun q hq => by have := Option.some.inj hq; omega); have t2 := hg2.size; have f0 := hF2.f.cell (j := 0) rfl; have r0 := hF2.r.cell (j := 0) rfl; have v0 := hF2.v.cell (j := 0) rfl; have v1 := hF2.v.cell (j := 1) rfl; have v2 := hF2.v.cell (j := 2) rfl; have z0 := hF2.z.cell (j := 0) rfl; have z1 := hF2.z.cell (j := 1) rfl; have z2 := hF2.z.cell (j := 2) rfl; have y0 := hF2.z.frozen 0; have y1 := hF2.z.frozen 1; have y2 := hF2.z.frozen 2; have x0 := hF2.v.frozen 0; have x1 := hF2.v.frozen 1; have x2 := hF2.v.frozen 2) | fail)
      have hG2 := grown_transB (grown_transB (grows_below hb0 (some g)) hg1) hg2
      have hg4 := grown_set w2 (w.heap.size + 1 + 1 + 1) 2 (.slice al nl cl)
      have hz4 := hF2.z.grown hg4 (fun e => by have := Option.some.inj e; omega)
      refine bodyPost_ret (v := .tuple #[.agg #[.int .u64 0, .slice none 0 0, .slice al nl cl], .bool true]) (results_pairK Try.results65 _ _ (w.heap.size + 1 + 1) 68 _ (0, 0) _ _ rfl rfl (set3 hz4 rfl).1 Try.underlying68 rfl Try.size68r) rfl ?_
      rw [HE.out]
      exact end_some (x := .mk 0 [] L) (hR2.grown hg4 (fun e => by have := Option.some.inj e; omega) (fun q hq => by have := Option.some.inj hq; have := hR.1; omega)) (grown_own hG2 hg4 (fun q hq => by have := Option.some.inj hq; omega)) hgw hz4 rfl (hx2.step ⟨hg4.size, fun b o hS hl => World.cell?_of_block (w := w2) (a := ⟨b, o, none⟩) (hg4.block b hl (fun e => by have := Option.some.inj e; omega))⟩ (fun b _ hb => by omega))
/-- Records and values, however deep. -/
theorem rec_any : ∀ r, recSaid r
  | 0 => fun n lv l M s g w0 w hM => by simp [mostL] at hM
  | r + 1 => takeR_any r (takeV_any r (rec_any r))
end Go.Proofs.Ytgfcindkfnjeoaa
namespace Go.Proofs.Ytgfcindkfnjeoaa
open Go.RowKit

def decTop (l : List Fld) (s : List UInt8) : Except Int (List Val) := if (mostL 4 l).isSome then (match decL 4 l s with
  | some (v, []) => .ok v
  | _ => .error 2) else .error 1
def decodePost (w : World) (r : Except Int (List Val)) (e : Ending) (w' : World) : Prop := (match r with
  | .ok v => ∃ val, e = .returned (.tuple #[val, .int .i64 0]) ∧ ValsK w' (fun b => w.heap.size ≤ b) 4 val v
  | .error c => e = .returned (.tuple #[.slice none 0 0, .int .i64 c])) ∧ Below w.heap.size w w'

set_option maxRecDepth 100000 in
set_option maxHeartbeats 1000000 in
theorem decode_any (n : Nat) (lv : Value) (l : List Fld) (bv : Value) (s : List UInt8) (w : World) (hF : Flds w n lv l) (hS : Seg w bv s) (hm : s.length ≤ maxLen) :
    Calls Try.prog 27 #[lv, bv] w fun e w' => decodePost w (decTop l s) e w' := by
  obtain ⟨ao, c, hlv, _, _⟩ := hF.form
  obtain ⟨ab, cb, hbv⟩ := hS.shape
  have HR : Hid (Calls Try.prog 30 #[lv] w fun e w' => e = .returned (.bool (mostL 4 l).isSome) ∧ Below w.heap.size w w') := right_any n lv l w hF
  cases hmo : mostL 4 l with
  | none =>
    have hres : Hid (decTop l s = .error 1) := by show _ = _; unfold decTop; rw [hmo]; rfl
    rw [hmo] at HR
    subst hlv
    subst hbv
    go_enter Try.func27, Try.ntmps27
    go_wp2_with (go_at_call 30; refine HR.out.mono ?_; rintro e w1 ⟨rfl, hb1⟩)
    go_ret2
    show decodePost w (decTop l s) _ _
    rw [hres.out]
    exact ⟨rfl, hb1⟩
  | some M =>
    have hres : Hid (decTop l s = match decL 4 l s with
      | some (v, []) => .ok v
      | _ => .error 2) := by show _ = _; unfold decTop; rw [hmo]; rfl
    rw [hmo] at HR
    have HT : Hid (∀ w1, Below w.heap.size w w1 → Calls Try.prog 47 #[.pointer (some ⟨w1.heap.size, 0, none⟩), lv] (w1.alloc (.cells #[bv] 82)) fun e w' => takePost w1 (w1.alloc (.cells #[bv] 82)) w1.heap.size (decL 4 l s) (fun v val w' => ValsK w' (fun b => (w1.alloc (.cells #[bv] 82)).heap.size ≤ b) 4 val v) (.slice none 0 0) e w') := fun w1 hb => rec_any 4 n lv l M s w1.heap.size w1 _ hmo (Flds.keeps (Keeps.of_below hb (Nat.le_refl _)) _ _ _ hF) ⟨Nat.le_refl _, (Below.refl _ _).alloc (Nat.le_refl _) _, hm, bv, Blk.new _ _ _, hS.below hb (Nat.le_refl _)⟩
    subst hlv
    subst hbv
    cases hd : decL 4 l s with
    | none =>
      rw [hd] at HT hres
      go_enter Try.func27, Try.ntmps27
      go_wp2_with (first | (go_at_call 30; refine HR.out.mono ?_; rintro e w1 ⟨rfl, hb1⟩) | (go_at_call 47; refine (HT.out _ (by exact hb1)).mono ?_; rintro e w2 ⟨⟨s2, rfl, hR2⟩, hg2⟩) | fail)
      go_ret2
      show decodePost w (decTop l s) _ _
      rw [hres.out]
      exact ⟨rfl, hb1.trans (hR2.2.1.mono hb1.size)⟩
    | some q =>
      obtain ⟨v, s'⟩ := q
      rw [hd] at HT hres
      have hs' : Hid (s'.length = 0 → decTop l s = .ok v) := fun h => by rw [hres.out, nil_of h]
      have hs'' : Hid (0 < s'.length → decTop l s = .error 2) := fun h => by
        rw [hres.out]
        cases s' with
        | nil => cases h
        | cons _ _ => rfl
      clear hres hd
      by_cases h0 : 0 < s'.length
      · have i0 : (0 : Int) < (s'.length : Int) := by omega
        go_enter Try.func27, Try.ntmps27
        go_wp2_with (first | (go_at_call 30; refine HR.out.mono ?_; rintro e w1 ⟨rfl, hb1⟩) | (go_at_call 47; refine (HT.out _ (by exact hb1)).mono ?_; rintro e w2 ⟨⟨v2, rfl, hv2, hR2⟩, hg2⟩; obtain ⟨a2, n2, c2, rfl⟩ := vals_form (hv2 _ (Agree.refl _ _)); obtain ⟨_, hB2, _, lv2, hk2, hs2⟩ := hR2; obtain ⟨a3, c3, rfl⟩ := hs2.shape; have d2 := hk2.cell (j := 0) rfl) | fail)
        go_ret2
        show decodePost w (decTop l s) _ _
        rw [hs''.out h0]
        exact ⟨rfl, hb1.trans (hB2.mono hb1.size)⟩
      · have HZ : Hid (s'.length = 0) := by show _ = _; omega
        have i0 : ¬ (0 : Int) < (s'.length : Int) := by omega
        go_enter Try.func27, Try.ntmps27
        go_wp2_with (first | (go_at_call 30; refine HR.out.mono ?_; rintro e w1 ⟨rfl, hb1⟩) | (go_at_call 47; refine (HT.out _ (by exact hb1)).mono ?_; rintro e w2 ⟨⟨v2, rfl, hv2, hR2⟩, hg2⟩; obtain ⟨a2, n2, c2, rfl⟩ := vals_form (hv2 _ (Agree.refl _ _)); obtain ⟨_, hB2, _, lv2, hk2, hs2⟩ := hR2; obtain ⟨a3, c3, rfl⟩ := hs2.shape; have d2 := hk2.cell (j := 0) rfl) | fail)
        go_ret2
        show decodePost w (decTop l s) _ _
        rw [hs'.out HZ.out]
        have hsz : (w1.alloc (.cells #[.slice ab s.length cb] 82)).heap.size = w1.heap.size + 1 := by simp
        have := hb1.size
        exact ⟨⟨_, rfl, hv2.mono (fun b hb => by rw [hsz] at hb; omega)⟩, hb1.trans (hB2.mono hb1.size)⟩
end Go.Proofs.Ytgfcindkfnjeoaa
