/-
  What is proved here: pack's takeList takes records one by one.
  Conditions: those that each fact names.
-/
import Derived.Test.YtjepeonekhhgfaaPackList
namespace Go.Proofs.Ytjepeonekhhgfaa
open Go.RowKit

theorem Try.info27p : (Try.prog.info? 27).map (fun i => (i.zero, i.size, i.bytes)) = some (some (.slice none 0 0), 1, 24) := by kernel_rfl
theorem Try.under40p : Try.prog.underlying 40 = some (.slice 27) := by kernel_rfl
theorem app_rec (w : World) {ops : Array Oper} {rest : List Oper} {o : Oper} {a : Act} {Q : Exit → Act → World → Prop} (hgd : o.guard = none) (s x : Operand)
    (ho : o.op = .call { callee := .builtin .append, args := #[s, x], argTypes := #[40, 40] })
    (base : Nat) (v : Value) (n : Nat) (xs : List Value) (hs : a.eval s = v) (hown : w.ownsRow base 27 1 v n xs) (g c : Nat) (u : Value) (hx : a.eval x = .slice (some ⟨g, 0, none⟩) 1 c) (hc : w.cell? ⟨g, 0, none⟩ = some u) (h1 : u.oneCell' = true)
    (hlen : n ≤ 1000000) (hbase : base ≤ w.heap.size)
    (hK : ∀ v' w', w'.ownsRow base 27 1 v' (n + 1) (xs ++ [u]) → w.grownBy w' v.ownBlock → (v'.ownBlock = v.ownBlock ∨ v'.ownBlock = some w.heap.size) → wpList Try.prog ops Q rest (a.put o.dst v') w') :
    wpList Try.prog ops Q (o :: rest) a w := by
  obtain ⟨i0, hi, hz0, hz1, hz2⟩ := info_parts Try.info27p
  refine wpList_append_own_at w hgd s x 40 ho base 27 i0 (.slice none 0 0) 1 24 Try.under40p hi hz0 hz1 hz2 rfl (by decide) v n xs hs hown ⟨g, 0, none⟩ 1 c [u] hx rfl (fun j y hy => ?_) (fun y hy => ?_) (by unfold maxLen; omega) (by omega) hbase ?_
  · match j, hy with
    | 0, hy => cases hy; exact hc
    | (j + 1), hy => cases hy
  · obtain rfl : y = u := by simpa using hy
    exact h1
  intro v' w' h2 h3 _ h5
  exact hK v' w' h2 h3 h5
theorem vals_form {w : World} : ∀ {k : Nat} {v : Value} {l : List Val}, Vals w k v l → ∃ ao n c, v = .slice ao n c
  | 0, _, _, ⟨h, _⟩ => ⟨_, _, _, h⟩
  | _ + 1, _, _, ⟨_, _, h, _⟩ => ⟨_, _, _, h⟩
/-- A slice of records of the call's own. -/
structure OwnR (w : World) (base k : Nat) (v : Value) (qs : List (Value × List Val)) : Prop where
  row : w.ownsRow base 27 1 v qs.length (qs.map Prod.fst)
  each : ∀ q ∈ qs, ValsK w (Apart base v) k q.1 q.2
theorem OwnR.nil (w : World) (base k : Nat) : OwnR w base k (.slice none 0 0) [] := ⟨⟨rfl, .inl ⟨rfl, rfl⟩⟩, fun _ h => by cases h⟩
theorem OwnR.blk_lt {w : World} {base k : Nat} {v : Value} {ps : List (Value × List Val)} (h : OwnR w base k v ps) : ∀ q, v.ownBlock = some q → base ≤ q ∧ q < w.heap.size := h.row.lt
theorem OwnR.grown {w w' : World} {base k g : Nat} {v : Value} {ps : List (Value × List Val)} (h : OwnR w base k v ps) (hg : w.grownBy w' (some g)) (hb : g < base) : OwnR w' base k v ps := by
  refine ⟨⟨h.row.1, ?_⟩, fun p hp => (h.each p hp).step ⟨hg.size, fun b o hS hl => World.cell?_of_block (w := w) (w' := w') (a := ⟨b, o, none⟩) (hg.block b hl (fun e => by have := Option.some.inj e; have := hS.1; omega))⟩ (fun _ _ h => h)⟩
  rcases h.row.2 with h2 | ⟨q, cap, cur, h1, h2, h3, h4⟩
  · exact .inl h2
  · exact .inr ⟨q, cap, cur, h1, h2, by rw [hg.block q (Array.getElem?_eq_some_iff.1 h3).1 (fun e => by have := Option.some.inj e; omega)]; exact h3, h4⟩
theorem OwnR.after {w w' : World} {base k : Nat} {v : Value} {ps : List (Value × List Val)} (h : OwnR w base k v ps) (hb : Below w.heap.size w w') : OwnR w' base k v ps := by
  refine ⟨⟨h.row.1, ?_⟩, fun p hp => (h.each p hp).step (Agree.of_keeps (Keeps.of_below hb (Nat.le_refl _)) _) (fun _ _ h => h)⟩
  rcases h.row.2 with h2 | ⟨q, cap, cur, h1, h2, h3, h4⟩
  · exact .inl h2
  · exact .inr ⟨q, cap, cur, h1, h2, by rw [hb.block q (Array.getElem?_eq_some_iff.1 h3).1]; exact h3, h4⟩
theorem OwnR.more {w w' : World} {base k : Nat} {v v' : Value} {ps : List (Value × List Val)} {p : Value × List Val} (h : OwnR w base k v ps) (hr : w'.ownsRow base 27 1 v' (ps.length + 1) (ps.map Prod.fst ++ [p.1])) (hg : w.grownBy w' v.ownBlock) (hv : v'.ownBlock = v.ownBlock ∨ v'.ownBlock = some w.heap.size) (hp : ValsK w (Apart base v) k p.1 p.2) : OwnR w' base k v' (ps ++ [p]) := by
  have ha : Agree w w' (Apart base v) := ⟨hg.size, fun b o hS hl => hg.cell_far ⟨b, o, none⟩ hl (fun e => hS.2 e.symm)⟩
  have hS : ∀ b, b < w.heap.size → Apart base v b → Apart base v' b := fun b hl hb => ⟨hb.1, by
    rcases hv with e | e
    · rw [e]; exact hb.2
    · rw [e]; intro h2; have := Option.some.inj h2; omega⟩
  refine ⟨?_, fun q hq => ?_⟩
  · rw [List.length_append, List.map_append]
    simpa using hr
  · rcases List.mem_append.1 hq with h1 | h1
    · exact (h.each q h1).step ha hS
    · obtain rfl : q = p := by simpa using h1
      exact hp.step ha hS
theorem OwnR.vok {w : World} {base k : Nat} {v : Value} {ps : List (Value × List Val)} (h : OwnR w base k v ps) (hm : ps.length ≤ 1000000) : VOkK w (fun b => base ≤ b) k (.mk 0 [] (ps.map Prod.snd)) (.slice none 0 0) v := fun W hW => by
  refine ⟨⟨.inl ⟨rfl, none, 0, rfl, fun _ => rfl⟩, Nat.zero_le _⟩, ?_, by show 0 < _; decide⟩
  show ∃ ao c, v = .slice ao (ps.map Prod.snd).length c ∧ (ps.map Prod.snd).length ≤ maxLen ∧ (0 < (ps.map Prod.snd).length → ∃ b off, ao = some ⟨b, off, none⟩ ∧ b < W.heap.size ∧ (ps.map Prod.snd).length ≤ c ∧ ∀ j r, (ps.map Prod.snd)[j]? = some r → ∃ rv, W.cell? ⟨b, off + j, none⟩ = some rv ∧ Vals W k rv r)
  rw [List.length_map]
  rcases h.row.2 with ⟨h1, h2⟩ | ⟨g, cap, cur, h1, h2, h3, h4, h5⟩
  · rw [h2]
    exact ⟨none, 0, h1, Nat.zero_le _, fun h => by cases h⟩
  · have hl : g < w.heap.size := (Array.getElem?_eq_some_iff.1 h3).1
    refine ⟨_, cap, h1, by unfold maxLen; omega, fun _ => ⟨g, 0, rfl, Nat.lt_of_lt_of_le hl hW.1, h4, fun j r hr => ?_⟩⟩
    rw [List.getElem?_map, Option.map_eq_some_iff] at hr
    obtain ⟨q, hq, rfl⟩ := hr
    refine ⟨q.1, ?_, h.each q (List.mem_of_getElem? hq) W ⟨hW.1, fun b o hS hl => hW.2 b o hS.1 hl⟩⟩
    rw [Nat.zero_add, hW.2 g j h2 hl]
    have := World.ownsRow.cells h.row (g := g) (by rw [h1]; rfl) j q.1 (by rw [List.getElem?_map, hq]; rfl)
    rw [Addr.add_mid, Nat.zero_add] at this
    exact this
theorem OwnR.sl {w : World} {base k : Nat} {v : Value} {ps : List (Value × List Val)} (h : OwnR w base k v ps) : ∃ ao n c, v = .slice ao n c := by
  rcases h.row.2 with ⟨h1, _⟩ | ⟨g, cap, cur, h1, _⟩ <;> exact ⟨_, _, _, h1⟩
def val1Said (r : Nat) (f : Fld) (o : Value) (w0 : World) (g : Nat) : Prop := ∀ (i : Int) (br bl : Nat) (s : List UInt8) (w : World), Reads w0 w g s → Cap w g br bl 44 #[.int .i64 f.kind, .int .u64 (f.min : Int), .int .u64 (f.max : Int), o] →
    Calls Try.prog 46 #[.int .i64 i, .pointer (some ⟨br, 0, none⟩), .pointer (some ⟨bl, 0, none⟩)] w fun e w' => takePost w0 w g (decL r f.of s) (fun v val w' => ValsK w' (fun b => w.heap.size ≤ b) r val v) (.slice none 0 0) e w'

set_option maxRecDepth 100000 in
set_option maxHeartbeats 2000000 in
theorem listR_any (r : Nat) (f : Fld) (o : Value) (w0 : World) (g : Nat) (hC : val1Said r f o w0 g) (n : Nat) (hlen : n ≤ 65536) (br bl : Nat) (s : List UInt8) (w : World) (hR : Reads w0 w g s) (hCap : Cap w g br bl 44 #[.int .i64 f.kind, .int .u64 (f.min : Int), .int .u64 (f.max : Int), o]) :
    Calls Try.prog 45 #[.int .i64 (n : Int), .func (.func 46) #[] #[.pointer (some ⟨br, 0, none⟩), .pointer (some ⟨bl, 0, none⟩)]] w fun e w' => takePost w0 w g (manyD (decL r f.of) n s) (fun L val w' => (∃ al nl cl, val = .slice al nl cl) ∧ VOkK w' (fun b => w.heap.size ≤ b) r (.mk 0 [] L) (.slice none 0 0) val) (.slice none 0 0) e w' := by
  obtain ⟨res, hres⟩ : ∃ res, res = manyD (decL r f.of) n s := ⟨_, rfl⟩
  rw [← hres]
  have HRES : Hid (res = manyD (decL r f.of) n s) := hres
  clear hres
  have HC : Hid (val1Said r f o w0 g) := hC
  clear hC
  have hgw : g < w.heap.size := by obtain ⟨_, _, _, _, hb, _⟩ := hR; exact hb.lt
  go_enter Try.func45, Try.ntmps45
  go_wp2
  go_loopw [6, 11] (fun u i wr => ∃ (I : Nat) (ps : List (Value × List Val)) (s' : List UInt8), I ≤ n ∧ i = .int .i64 (I : Int) ∧ OwnR wr w.heap.size r u ps ∧ ps.length = I ∧ manyD (decL r f.of) I s = some (ps.map Prod.snd, s') ∧ Reads w0 wr g s' ∧ w.grownBy wr (some g)) (fun _ i _ => n - (intOf i).toNat)
  case atStart => exact ⟨0, [], s, Nat.zero_le _, rfl, OwnR.nil _ _ _, rfl, rfl, hR, grown_refl _ _⟩
  case round =>
    obtain ⟨I, ps, s', hI, rfl, hO, hpl, hps, hR', hG⟩ := hrel
    have HPS : Hid (manyD (decL r f.of) I s = some (ps.map Prod.snd, s')) := hps
    clear hps
    have hCap' : Cap wr g br bl 44 #[.int .i64 f.kind, .int .u64 (f.min : Int), .int .u64 (f.max : Int), o] := hCap.grown hG (fun k hk => .inl (Option.some.inj hk).symm)
    have s1 := hG.size
    by_cases hlt : I < n
    · have i1 : (I : Int) < (n : Int) := by omega
      have HCI : Hid (∀ W, Reads w0 W g s' → Cap W g br bl 44 #[.int .i64 f.kind, .int .u64 (f.min : Int), .int .u64 (f.max : Int), o] → Calls Try.prog 46 #[.int .i64 (I : Int), .pointer (some ⟨br, 0, none⟩), .pointer (some ⟨bl, 0, none⟩)] W fun e w' => takePost w0 W g (decL r f.of s') (fun v val w' => ValsK w' (fun b => W.heap.size ≤ b) r val v) (.slice none 0 0) e w') := fun W h1 h2 => HC.out I br bl s' W h1 h2
      cases hone : decL r f.of s' with
      | none =>
        rw [hone] at HCI
        have HE : Hid (res = none) := by
          show _ = _
          rw [HRES.out]
          exact manyD_none _ s (show I + 1 ≤ n from hlt) (by rw [manyD_snoc, HPS.out, Option.bind_some, hone]; rfl)
        clear hone
        go_wp2_with (go_at_call 46; refine (HCI.out _ (by exact hR') (by exact hCap')).mono ?_; rintro e w3 ⟨⟨s3, rfl, hR3⟩, hg3⟩)
        go_ret2
        rw [HE.out]
        exact ⟨⟨s3, rfl, hR3⟩, grown_trans hG hg3⟩
      | some q =>
        obtain ⟨x, s''⟩ := q
        rw [hone] at HCI
        have HN : Hid (manyD (decL r f.of) (I + 1) s = some (ps.map Prod.snd ++ [x], s'')) := by
          show _ = _
          rw [manyD_snoc, HPS.out, Option.bind_some, hone]
          rfl
        clear hone
        go_wp2_with (first | (go_at_call 46; refine (HCI.out _ (by exact hR') (by exact hCap')).mono ?_; rintro e w3 ⟨⟨v3, rfl, hv3, hR3⟩, hg3⟩; obtain ⟨a3, n3, c3, rfl⟩ := vals_form (hv3 _ (Agree.refl _ _)); have s3 := hg3.size; have hW1 : Below w3.heap.size w3 (w3.alloc (.cells #[.slice a3 n3 c3] 27)) := ((Below.refl _ _).alloc (Nat.le_refl _) _); have hW2 := hW1.size) | (at_builtin; refine app_rec _ rfl (.tmp 22) (.tmp 24) rfl w.heap.size _ ps.length _ rfl (by exact ((hO.grown hg3 hgw).after hW1).row) w3.heap.size 1 (.slice a3 n3 c3) rfl (by exact (Blk.new _ _ _).cell rfl) rfl (by omega) (by omega) ?_; intro v4 w4 hr4 hg4 hv4) | fail)
        have hO4 := ((hO.grown hg3 hgw).after hW1).more (p := (.slice a3 n3 c3, x)) hr4 hg4 hv4 (hv3.step (Agree.of_keeps (Keeps.of_below hW1 (Nat.le_refl _)) _) (fun b _ hb => ⟨by omega, fun e => by have := (hO.blk_lt _ e).2; omega⟩))
        have hG4 := grown_own (grown_trans hG (grown_trans hg3 (grows_below hW1 _))) hg4 (fun q hq => (hO.blk_lt q hq).1)
        have hR4 := (hR3.below hW1).grown hg4 (fun e => by have := (hO.blk_lt _ e.symm).1; omega) (fun q hq => by have := (hO.blk_lt q hq).1; have := hR.1; omega)
        go_roundw
        case rel => exact ⟨I + 1, _, s'', hlt, by go_num, hO4, by simp [hpl], by rw [List.map_append]; exact HN.out, hR4, hG4⟩
        case measure => simp [intOf]; omega
    · have i1 : ¬ (I : Int) < (n : Int) := by omega
      have HE : Hid (res = some (ps.map Prod.snd, s')) := by
        show _ = _
        rw [HRES.out, ← HPS.out, show n = I by omega]
      obtain ⟨ao, no, co, rfl⟩ := hO.sl
      go_wp2
      go_ret2
      rw [HE.out]
      refine ⟨⟨.slice ao no co, rfl, ?_, hR'⟩, hG⟩
      exact ⟨⟨ao, no, co, rfl⟩, hO.vok (by omega)⟩
end Go.Proofs.Ytjepeonekhhgfaa
