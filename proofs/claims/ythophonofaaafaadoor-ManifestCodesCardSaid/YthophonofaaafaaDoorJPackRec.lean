/-
  What is proved here: pack.appendRecord and pack.Encode answer the bytes of a record as the plain functions tell, or that it does not fit.
  Conditions: fields and values lie in memory.
-/
import Derived.Test.YthophonofaaafaaDoorJPackEnc
import Derived.Test.YthophonofaaafaaDoorJPackMost
namespace Go.Proofs.YthophonofaaafaaDoor
open Go.RowKit

theorem exec_index {a : Act} {o : Oper} {w : World} (t : TypeId) (x y : Operand) (ho : o.op = .indexAddr t x y) (u v r : Value) (hx : a.eval x = u) (hy : a.eval y = v) (h : (Instr.indexAt t u v).run Tryd.prog w = .ok r w) : (execOp a.eval o).run Tryd.prog w = .ok (.value r) w := by
  unfold execOp
  simp [ho, hx, hy, h]
theorem index_values (b off len c I : Nat) (w : World) (h : I < len) : (Instr.indexAt 58 (.slice (some ⟨b, off, none⟩) len c) (.int .i64 (I : Int))).run Tryd.prog w = .ok (.pointer (some ⟨b, off + I * 3, none⟩)) w := by
  have hs : ∀ w, (sizeOf 63).run Tryd.prog w = .ok 3 w := fun w => by kernel_rfl
  have hi : (0 : Int) ≤ (I : Int) ∧ (I : Int) < (len : Int) := by omega
  simp [Instr.indexAt, asIntOf, run_underlying Tryd.underlying58, hs, hi, Addr.add_mid]
  intro h2
  omega
theorem zip_at (E : List Fld → List Val → Option (List UInt8)) (l : List Fld) (v : List Val) (I : Nat) (f : Fld) (x : Val) (hf : l[I]? = some f) (hx : v[I]? = some x) : (List.zipWith (encOne E) l v)[I]? = some (encOne E f x) := by
  rw [List.getElem?_zipWith, hf, hx]

theorem mostSum_part (M : List Fld → Option Nat) (l : List Fld) (S I : Nat) (f : Fld) (h : mostSum M l = some S) (hf : l[I]? = some f) : ∃ a S', mostOne M f = some a ∧ mostSum M (l.take I) = some S' ∧ S' + a ≤ S := by
  have hs : l = l.take I ++ (f :: l.drop (I + 1)) := by
    obtain ⟨h1, h2⟩ := List.getElem?_eq_some_iff.1 hf
    rw [← h2, List.getElem_cons_drop, List.take_append_drop]
  rw [hs, mostSum_append] at h
  cases h1 : mostSum M (l.take I) with
  | none => rw [h1] at h; cases h
  | some S' =>
    rw [h1] at h
    cases h2 : mostOne M f with
    | none => rw [mostSum, h2] at h; cases h
    | some a =>
      refine ⟨a, S', rfl, rfl, ?_⟩
      rw [mostSum, h2] at h
      simp only at h
      cases h3 : mostSum M (l.drop (I + 1)) with
      | none => rw [h3] at h; cases h
      | some z => rw [h3] at h; simp at h; omega

set_option maxRecDepth 100000 in
set_option maxHeartbeats 2000000 in
theorem appRec_any (r : Nat) : appRecSaid r := by
  induction r with
  | zero =>
    intro n lv l m vv v M w0 w base b bs h
    simp [mostL] at h
  | succ r ih =>
    intro n lv l m vv v M w0 w base b bs hM hFl hVl hs0 hB0 hbase hO hsz
    obtain ⟨hSum, hl1, hl16, hMb⟩ := mostL_succ hM
    obtain ⟨ao, c, hlv, hlm, hFc⟩ := hFl.form
    obtain ⟨av, cv, hvv, hvm, hVc⟩ := hVl.form
    unfold maxLen at hlm hvm
    subst hlv
    subst hvv
    have HE : Hid (encL (r + 1) l v = if l.length = v.length then catO (List.zipWith (encOne (encL r)) l v) else none) := rfl
    have HSum : Hid (mostSum (mostL r) l = some M) := hSum
    have HV : Hid (∀ (f : Fld) (o : Value) (x : Val) (bv : Value) (al : Option Addr) (cl a : Nat) (W : World) (u : Value) (us : List UInt8), mostOne (mostL r) f = some a → f.max < 18446744073709551616 → Flds w0 (n - 1) o f.of → x.n < 18446744073709551616 → Seg w0 bv x.b → x.b.length ≤ maxLen → x.l.length ≤ maxLen → (0 < x.l.length → ∃ b off, al = some ⟨b, off, none⟩ ∧ b < w0.heap.size ∧ x.l.length ≤ cl ∧ ∀ k r, x.l[k]? = some r → ∃ rv, w0.cell? ⟨b, off + k, none⟩ = some rv ∧ Vals w0 (m - 1) rv r) → Below base w0 W → base ≤ W.heap.size → Own W base u us → us.length + a ≤ 10000000 →
      Calls Tryd.prog 73 #[u, fldV f o, valV x bv (.slice al x.l.length cl)] W fun e w' => encPost W base u us (encOne (encL r) f x) e w') := fun f o x bv al cl a W u us h1 h2 h3 h4 h5 h6 h7 h8 h9 h10 h11 h12 => appVal_any r ih f (n - 1) o x (m - 1) bv al cl a w0 W base u us h1 h2 h3 h4 h5 h6 h7 h8 hs0 h9 h10 h11 h12
    clear hSum ih
    by_cases hlen : l.length = v.length
    · have HE' : Hid (encL (r + 1) l v = catO (List.zipWith (encOne (encL r)) l v)) := by show _ = _; rw [HE.out, if_pos hlen]
      have HLV : Hid (l.length = v.length) := hlen
      obtain ⟨bF, offF, hao, hbF, hcF, hF⟩ := hFc (by omega)
      obtain ⟨bV, offV, hav, hbV, hcV, hV⟩ := hVc (by omega)
      subst hao
      subst hav
      obtain ⟨len, hle⟩ : ∃ len, l.length = len := ⟨_, rfl⟩
      have hle2 : v.length = len := by omega
      rw [hle] at hl1 hl16 hlm hcF ⊢
      rw [hle2] at hvm hcV ⊢
      have HLE : Hid (l.length = len ∧ v.length = len) := ⟨hle, hle2⟩
      clear hlen hle hle2
      go_enter Tryd.func59, Tryd.ntmps59
      go_wp2
      go_loopw [0, 18] (fun u i wr => ∃ (I : Nat) (q : List UInt8), I ≤ len ∧ i = .int .i64 (I : Int) ∧ catO ((List.zipWith (encOne (encL r)) l v).take I) = some q ∧ (∀ S, mostSum (mostL r) (l.take I) = some S → q.length ≤ S) ∧ Grew w base b wr u (bs ++ q)) (fun _ i _ => len - (intOf i).toNat)
      case atStart => exact ⟨0, [], Nat.zero_le _, rfl, by simp [catO], fun _ _ => Nat.zero_le _, by simpa using Grew.refl hO⟩
      case round =>
        obtain ⟨I, q, hI, rfl, hcat, hql, hG⟩ := hrel
        have HC : Hid (catO ((List.zipWith (encOne (encL r)) l v).take I) = some q) := hcat
        clear hcat
        have s1 := hG.size
        have hBw := hB0.trans (hG.below hO hbase)
        by_cases hlt : I < len
        · obtain ⟨f, hf1⟩ : ∃ f, l[I]? = some f := ⟨l[I]'(by have := HLE.out.1; omega), List.getElem?_eq_getElem (by have := HLE.out.1; omega)⟩
          obtain ⟨x, hx1⟩ : ∃ x, v[I]? = some x := ⟨v[I]'(by have := HLE.out.2; omega), List.getElem?_eq_getElem (by have := HLE.out.2; omega)⟩
          obtain ⟨a, S', hmo, hS', hSa⟩ := mostSum_part _ l M I f HSum.out hf1
          have hqS := hql S' hS'
          have K := Keeps.of_below hBw hs0
          obtain ⟨f0, f1, f2, ⟨o, f3, hof⟩, hmn, hmx⟩ := hF I f hf1
          obtain ⟨x0, ⟨bv, x1, hbv, hbvl⟩, ⟨al, cl, x2, hll, hrecs⟩, hxn⟩ := hV I x hx1
          have c0 := K.cell f0
          have c1 := K.cell f1
          have c2 := K.cell f2
          have c3 := K.cell f3
          have d0 := K.cell x0
          have d1 := K.cell x1
          have d2 := K.cell x2
          have HCV : Hid (∀ W, Grew w base b W u0 (bs ++ q) → Calls Tryd.prog 73 #[u0, fldV f o, valV x bv (.slice al x.l.length cl)] W fun e w' => encPost W base u0 (bs ++ q) (encOne (encL r) f x) e w') := fun W hW => HV.out f o x bv al cl a W u0 (bs ++ q) hmo hmx hof hxn hbv hbvl hll hrecs (hB0.trans (hW.below hO hbase)) (Nat.le_trans hbase hW.size) hW.own (by rw [List.length_append]; omega)
          have HZ : Hid ((List.zipWith (encOne (encL r)) l v)[I]? = some (encOne (encL r) f x)) := zip_at _ l v I f x hf1 hx1
          unfold fldV valV at HCV
          have HQ : Hid (∀ nb S, encOne (encL r) f x = some nb → mostSum (mostL r) (l.take (I + 1)) = some S → (q ++ nb).length ≤ S) := fun nb S h1 h2 => by
            rw [mostSum_snoc _ l I f S' a hf1 hS' hmo] at h2
            cases h2
            have := encOne_len hmo (fun l m v q h1 h2 => encL_len r l m v q h1 h2) h1
            rw [List.length_append]; omega
          obtain ⟨ao2, cc2, ho2, hol2, _⟩ := hof.form
          subst ho2
          clear f0 f1 f2 f3 x0 x1 x2 hof hbv hrecs hbvl hql hqS
          have i1 : (I : Int) < (len : Int) := by omega
          have HG1 : Hid (∀ ob, Grew w base b (wr.alloc ob).drew u0 (bs ++ q)) := fun ob => hG.after ((Below.refl wr.heap.size wr).alloc (Nat.le_refl _) _).drew (Nat.le_refl _)
          have HIX : Hid (∀ W, (Instr.indexAt 58 (.slice (some ⟨bV, offV, none⟩) len cv) (.int .i64 (I : Int))).run Tryd.prog W = .ok (.pointer (some ⟨bV, offV + I * 3, none⟩)) W) := fun W => index_values bV offV len cv I W hlt
          have hnew : u0.ownBlock ≠ some wr.heap.size := fun h => by have := (hG.own.blocks _ h).2; omega
          have hold : u0.ownBlock ≠ some bV := fun h => by have := (hG.own.blocks _ h).1; omega
          have RV : Hid (∀ ob, ((wr.alloc ob).drew).rangeAt bV (offV + I * 3) [.int .u64 (x.n : Int), bv, .slice al x.l.length cl]) := fun ob j u hu => by
            have kk : Keeps wr (wr.alloc ob).drew := Keeps.of_below ((Below.refl wr.heap.size wr).alloc (Nat.le_refl _) _).drew (Nat.le_refl _)
            match j, hu with
            | 0, hu => cases hu; exact kk.cell d0
            | 1, hu => cases hu; exact kk.cell d1
            | 2, hu => cases hu; exact kk.cell d2
            | (j + 3), hu => cases hu
          cases hen : encOne (encL r) f x with
          | none =>
            rw [hen] at HCV HZ
            have hres : Hid (encL (r + 1) l v = none) := by show _ = _; rw [HE'.out, catO_none _ I HZ.out]
            go_wp2_with fail
            refine held_begin (fun W => Blk W wr.heap.size 83 #[.int .i64 f.kind, .int .u64 (f.min : Int), .int .u64 (f.max : Int), .slice ao2 f.of.length cc2] ∧ W.rangeAt bV (offV + I * 3) [.int .u64 (x.n : Int), bv, .slice al x.l.length cl]) (by kernel_rfl) ?_
            have hS1 := And.intro (Blk.new wr 83 #[.int .i64 f.kind, .int .u64 (f.min : Int), .int .u64 (f.max : Int), .slice ao2 f.of.length cc2]).drew (RV.out (.cells #[.int .i64 f.kind, .int .u64 (f.min : Int), .int .u64 (f.max : Int), .slice ao2 f.of.length cc2] 83))
            refine held_take 0 24 _ u0 rfl rfl (by kernel_rfl) (by kernel_rfl) (by kernel_rfl) rfl hS1 (fun _ _ => rfl) ?_
            simp only [Act.put, List.setIfInBounds_toArray, List.set_cons_succ, List.set_cons_zero]
            refine held_take 1 25 _ (.agg #[.int .i64 f.kind, .int .u64 (f.min : Int), .int .u64 (f.max : Int), .slice ao2 f.of.length cc2]) rfl rfl (by kernel_rfl) (by kernel_rfl) (by kernel_rfl) rfl hS1 (fun W hW => exec_loads _ _ rfl _ _ rfl [.int .i64 f.kind, .int .u64 (f.min : Int), .int .u64 (f.max : Int), .slice ao2 f.of.length cc2] _ (Blk.range' hW.1) Tryd.underlying83 rfl (by kernel_rfl)) ?_
            simp only [Act.put, List.setIfInBounds_toArray, List.set_cons_succ, List.set_cons_zero]
            refine held_take 2 26 _ (.slice (some ⟨bV, offV, none⟩) len cv) rfl rfl (by kernel_rfl) (by kernel_rfl) (by kernel_rfl) rfl hS1 (fun _ _ => rfl) ?_
            simp only [Act.put, List.setIfInBounds_toArray, List.set_cons_succ, List.set_cons_zero]
            refine held_take 3 27 _ (.int .i64 (I : Int)) rfl rfl (by kernel_rfl) (by kernel_rfl) (by kernel_rfl) rfl hS1 (fun _ _ => rfl) ?_
            simp only [Act.put, List.setIfInBounds_toArray, List.set_cons_succ, List.set_cons_zero]
            refine held_take 4 28 _ (.pointer (some ⟨bV, offV + I * 3, none⟩)) rfl rfl (by kernel_rfl) (by kernel_rfl) (by kernel_rfl) rfl hS1 (fun W _ => exec_index _ _ _ rfl _ _ _ rfl rfl (HIX.out W)) ?_
            simp only [Act.put, List.setIfInBounds_toArray, List.set_cons_succ, List.set_cons_zero]
            refine held_take 5 29 _ (.agg #[.int .u64 (x.n : Int), bv, .slice al x.l.length cl]) rfl rfl (by kernel_rfl) (by kernel_rfl) (by kernel_rfl) rfl hS1 (fun W hW => exec_loads _ _ rfl _ _ rfl [.int .u64 (x.n : Int), bv, .slice al x.l.length cl] _ hW.2 Tryd.underlying63 rfl (by kernel_rfl)) ?_
            simp only [Act.put, List.setIfInBounds_toArray, List.set_cons_succ, List.set_cons_zero]
            refine held_call 6 30 _ 73 _ rfl rfl (by kernel_rfl) rfl (exec_three 73 _ _ _ _ rfl _ _ _ rfl rfl rfl Tryd.call73) ?_
            refine (HCV.out _ (HG1.out _)).mono ?_
            rintro e w5 ⟨rfl, hb5⟩
            have hS5 : Blk w5 wr.heap.size 83 #[.int .i64 f.kind, .int .u64 (f.min : Int), .int .u64 (f.max : Int), .slice ao2 f.of.length cc2] ∧ w5.rangeAt bV (offV + I * 3) [.int .u64 (x.n : Int), bv, .slice al x.l.length cl] := ⟨hS1.1.grown hb5 (fun h => hnew h.symm), fun j u hu => hb5.cell (hS1.2 j u hu) (fun h => hold h.symm)⟩
            refine ⟨_, rfl, hS5, ?_⟩
            simp only [Act.put, List.setIfInBounds_toArray, List.set_cons_succ, List.set_cons_zero]
            refine held_one 7 23 _ (.tuple #[.slice none 0 0, .bool false]) rfl rfl (by kernel_rfl) rfl hS5 rfl ?_
            simp only [Act.put, List.setIfInBounds_toArray, List.set_cons_succ, List.set_cons_zero]
            refine held_take 8 31 _ (.slice none 0 0) rfl rfl (by kernel_rfl) (by kernel_rfl) (by kernel_rfl) rfl hS5 (fun _ _ => rfl) ?_
            simp only [Act.put, List.setIfInBounds_toArray, List.set_cons_succ, List.set_cons_zero]
            refine held_take 9 32 _ (.bool false) rfl rfl (by kernel_rfl) (by kernel_rfl) (by kernel_rfl) rfl hS5 (fun _ _ => rfl) ?_
            simp only [Act.put, List.setIfInBounds_toArray, List.set_cons_succ, List.set_cons_zero]
            refine held_one 10 0 _ (.slice none 0 0) rfl rfl (by kernel_rfl) rfl hS5 rfl ?_
            simp only [Act.put, List.setIfInBounds_toArray, List.set_cons_zero]
            refine held_one 11 10 _ (.bool false) rfl rfl (by kernel_rfl) rfl hS5 rfl ?_
            simp only [Act.put, List.setIfInBounds_toArray, List.set_cons_succ, List.set_cons_zero]
            refine wpAnyH_done (by kernel_rfl) ?_ _
            refine NoPanic.normal ?_
            go_wp2
            go_ret2
            show encPost w base b bs (encL (r + 1) l v) _ w5
            rw [hres.out]
            exact ⟨rfl, (HG1.out _).then hb5⟩
          | some nb =>
            rw [hen] at HCV HZ
            go_wp2_with fail
            refine held_begin (fun W => Blk W wr.heap.size 83 #[.int .i64 f.kind, .int .u64 (f.min : Int), .int .u64 (f.max : Int), .slice ao2 f.of.length cc2] ∧ W.rangeAt bV (offV + I * 3) [.int .u64 (x.n : Int), bv, .slice al x.l.length cl]) (by kernel_rfl) ?_
            have hS1 := And.intro (Blk.new wr 83 #[.int .i64 f.kind, .int .u64 (f.min : Int), .int .u64 (f.max : Int), .slice ao2 f.of.length cc2]).drew (RV.out (.cells #[.int .i64 f.kind, .int .u64 (f.min : Int), .int .u64 (f.max : Int), .slice ao2 f.of.length cc2] 83))
            refine held_take 0 24 _ u0 rfl rfl (by kernel_rfl) (by kernel_rfl) (by kernel_rfl) rfl hS1 (fun _ _ => rfl) ?_
            simp only [Act.put, List.setIfInBounds_toArray, List.set_cons_succ, List.set_cons_zero]
            refine held_take 1 25 _ (.agg #[.int .i64 f.kind, .int .u64 (f.min : Int), .int .u64 (f.max : Int), .slice ao2 f.of.length cc2]) rfl rfl (by kernel_rfl) (by kernel_rfl) (by kernel_rfl) rfl hS1 (fun W hW => exec_loads _ _ rfl _ _ rfl [.int .i64 f.kind, .int .u64 (f.min : Int), .int .u64 (f.max : Int), .slice ao2 f.of.length cc2] _ (Blk.range' hW.1) Tryd.underlying83 rfl (by kernel_rfl)) ?_
            simp only [Act.put, List.setIfInBounds_toArray, List.set_cons_succ, List.set_cons_zero]
            refine held_take 2 26 _ (.slice (some ⟨bV, offV, none⟩) len cv) rfl rfl (by kernel_rfl) (by kernel_rfl) (by kernel_rfl) rfl hS1 (fun _ _ => rfl) ?_
            simp only [Act.put, List.setIfInBounds_toArray, List.set_cons_succ, List.set_cons_zero]
            refine held_take 3 27 _ (.int .i64 (I : Int)) rfl rfl (by kernel_rfl) (by kernel_rfl) (by kernel_rfl) rfl hS1 (fun _ _ => rfl) ?_
            simp only [Act.put, List.setIfInBounds_toArray, List.set_cons_succ, List.set_cons_zero]
            refine held_take 4 28 _ (.pointer (some ⟨bV, offV + I * 3, none⟩)) rfl rfl (by kernel_rfl) (by kernel_rfl) (by kernel_rfl) rfl hS1 (fun W _ => exec_index _ _ _ rfl _ _ _ rfl rfl (HIX.out W)) ?_
            simp only [Act.put, List.setIfInBounds_toArray, List.set_cons_succ, List.set_cons_zero]
            refine held_take 5 29 _ (.agg #[.int .u64 (x.n : Int), bv, .slice al x.l.length cl]) rfl rfl (by kernel_rfl) (by kernel_rfl) (by kernel_rfl) rfl hS1 (fun W hW => exec_loads _ _ rfl _ _ rfl [.int .u64 (x.n : Int), bv, .slice al x.l.length cl] _ hW.2 Tryd.underlying63 rfl (by kernel_rfl)) ?_
            simp only [Act.put, List.setIfInBounds_toArray, List.set_cons_succ, List.set_cons_zero]
            refine held_call 6 30 _ 73 _ rfl rfl (by kernel_rfl) rfl (exec_three 73 _ _ _ _ rfl _ _ _ rfl rfl rfl Tryd.call73) ?_
            refine (HCV.out _ (HG1.out _)).mono ?_
            rintro e w5 ⟨b5, rfl, hG5⟩
            have hS5 : Blk w5 wr.heap.size 83 #[.int .i64 f.kind, .int .u64 (f.min : Int), .int .u64 (f.max : Int), .slice ao2 f.of.length cc2] ∧ w5.rangeAt bV (offV + I * 3) [.int .u64 (x.n : Int), bv, .slice al x.l.length cl] := ⟨hS1.1.grown hG5.grown (fun h => hnew h.symm), fun j u hu => hG5.grown.cell (hS1.2 j u hu) (fun h => hold h.symm)⟩
            refine ⟨_, rfl, hS5, ?_⟩
            simp only [Act.put, List.setIfInBounds_toArray, List.set_cons_succ, List.set_cons_zero]
            refine held_one 7 23 _ (.tuple #[b5, .bool true]) rfl rfl (by kernel_rfl) rfl hS5 rfl ?_
            simp only [Act.put, List.setIfInBounds_toArray, List.set_cons_succ, List.set_cons_zero]
            refine held_take 8 31 _ b5 rfl rfl (by kernel_rfl) (by kernel_rfl) (by kernel_rfl) rfl hS5 (fun _ _ => rfl) ?_
            simp only [Act.put, List.setIfInBounds_toArray, List.set_cons_succ, List.set_cons_zero]
            refine held_take 9 32 _ (.bool true) rfl rfl (by kernel_rfl) (by kernel_rfl) (by kernel_rfl) rfl hS5 (fun _ _ => rfl) ?_
            simp only [Act.put, List.setIfInBounds_toArray, List.set_cons_succ, List.set_cons_zero]
            refine held_one 10 0 _ b5 rfl rfl (by kernel_rfl) rfl hS5 rfl ?_
            simp only [Act.put, List.setIfInBounds_toArray, List.set_cons_zero]
            refine held_one 11 10 _ (.bool true) rfl rfl (by kernel_rfl) rfl hS5 rfl ?_
            simp only [Act.put, List.setIfInBounds_toArray, List.set_cons_succ, List.set_cons_zero]
            refine wpAnyH_done (by kernel_rfl) ?_ _
            refine NoPanic.normal ?_
            go_wp2
            go_roundw
            case rel =>
              refine ⟨I + 1, q ++ nb, hlt, by go_num, catO_snoc _ I q nb HZ.out HC.out, fun S hS => HQ.out nb S hen hS, ?_⟩
              rw [← List.append_assoc]
              exact (HG1.out _).trans hG5
            case measure => simp [intOf]; omega
        · have HQ : Hid (catO (List.zipWith (encOne (encL r)) l v) = some q) := by show _ = _; rw [← HC.out, List.take_of_length_le (by have := HLE.out; simp; omega)]
          have i1 : ¬ (I : Int) < (len : Int) := by omega
          go_wp2
          go_ret2
          show encPost w base b bs (encL (r + 1) l v) _ wr
          rw [HE'.out, HQ.out]
          exact ⟨_, rfl, hG⟩
    · have hres : Hid (encL (r + 1) l v = none) := by show _ = _; rw [HE.out, if_neg hlen]
      have i1 : ((v.length : Int) != (l.length : Int)) = true := by
        rw [bne_iff_ne]; omega
      go_enter Tryd.func59, Tryd.ntmps59
      go_wp2
      go_ret2
      show encPost w base b bs (encL (r + 1) l v) _ w
      rw [hres.out]
      exact ⟨rfl, World.grownBy.refl _ _⟩

/-- The bytes of a record of fields that may be. -/
def encTop (l : List Fld) (v : List Val) : Option (List UInt8) := if (mostL 4 l).isSome then encL 4 l v else none
def encodePost (w : World) (r : Option (List UInt8)) (e : Ending) (w' : World) : Prop := (match r with
      | some nb => ∃ b, e = .returned (.tuple #[b, .int .i64 0]) ∧ Own w' w.heap.size b nb
      | none => e = .returned (.tuple #[.slice none 0 0, .int .i64 1])) ∧ Below w.heap.size w w'
theorem own_nil (w : World) (base : Nat) : Own w base (.slice none 0 0) [] := ⟨rfl, .inl ⟨rfl, rfl⟩⟩
set_option maxRecDepth 100000 in
set_option maxHeartbeats 1000000 in
theorem encode_any (n : Nat) (lv : Value) (l : List Fld) (m : Nat) (vv : Value) (v : List Val) (w : World) (hF : Flds w n lv l) (hV : Vals w m vv v) :
    Calls Tryd.prog 38 #[lv, vv] w fun e w' => encodePost w (encTop l v) e w' := by
  obtain ⟨ao, c, hlv, _, _⟩ := hF.form
  obtain ⟨av, cv, hvv, _, _⟩ := hV.form
  have HR : Hid (Calls Tryd.prog 58 #[lv] w fun e w' => e = .returned (.bool (mostL 4 l).isSome) ∧ Below w.heap.size w w') := right_any n lv l w hF
  cases hm : mostL 4 l with
  | none =>
    have hres : Hid (encTop l v = none) := by show _ = _; unfold encTop; rw [hm]; rfl
    rw [hm] at HR
    subst hlv
    subst hvv
    go_enter Tryd.func38, Tryd.ntmps38
    go_wp2_with (go_at_call 58; refine HR.out.mono ?_; rintro e w1 ⟨rfl, hb1⟩)
    go_ret2
    show encodePost w (encTop l v) _ _
    rw [hres.out]
    exact ⟨rfl, hb1⟩
  | some M =>
    have hres : Hid (encTop l v = encL 4 l v) := by show _ = _; unfold encTop; rw [hm]; rfl
    rw [hm] at HR
    have hMb := mostL_le hm
    have HA : Hid (∀ W, Below w.heap.size w W → Calls Tryd.prog 59 #[.slice none 0 0, lv, vv] W fun e w' => encPost W w.heap.size (.slice none 0 0) [] (encL 4 l v) e w') := fun W hW => appRec_any 4 n lv l m vv v M w W w.heap.size (.slice none 0 0) [] hm hF hV (Nat.le_refl _) hW hW.size (own_nil _ _) (by simp; omega)
    subst hlv
    subst hvv
    cases hen : encL 4 l v with
    | none =>
      rw [hen] at HA
      go_enter Tryd.func38, Tryd.ntmps38
      go_wp2_with (first | (go_at_call 58; refine HR.out.mono ?_; rintro e w1 ⟨rfl, hb1⟩) | (go_at_call 59; refine (HA.out _ (by exact hb1)).mono ?_; rintro e w2 ⟨rfl, hb2⟩))
      go_ret2
      show encodePost w (encTop l v) _ _
      rw [hres.out, hen]
      exact ⟨rfl, hb1.trans (below_grown (Below.refl _ _) hb2 hb1.size (fun k hk => by cases hk))⟩
    | some nb =>
      rw [hen] at HA
      go_enter Tryd.func38, Tryd.ntmps38
      go_wp2_with (first | (go_at_call 58; refine HR.out.mono ?_; rintro e w1 ⟨rfl, hb1⟩) | (go_at_call 59; refine (HA.out _ (by exact hb1)).mono ?_; rintro e w2 ⟨b2, rfl, hG2⟩))
      go_ret2
      show encodePost w (encTop l v) _ _
      rw [hres.out, hen]
      exact ⟨⟨_, rfl, by simpa using hG2.own⟩, hb1.trans (hG2.below (own_nil _ _) hb1.size)⟩
end Go.Proofs.YthophonofaaafaaDoor
