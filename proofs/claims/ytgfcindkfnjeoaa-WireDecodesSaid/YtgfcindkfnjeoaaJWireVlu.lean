/-
  What is proved here: wire.valuesOf makes the values of a message.
  Conditions: its numbers are not negative; what manifest.Encode answers, if it is an Offer.
-/
import Derived.Test.YtgfcindkfnjeoaaJWireFlds
import Derived.Test.YtgfcindkfnjeoaaJWireRight
namespace Go.Proofs.Ytgfcindkfnjeoaa
open Go.RowKit

def valWs (xs : List Nat) : List Value := xs.flatMap fun (n : Nat) => [.int .u64 (n : Int), .slice none 0 0, .slice none 0 0]
theorem valWs_snoc (xs : List Nat) (n : Nat) : valWs (xs ++ [n]) = valWs xs ++ [.int .u64 (n : Int), .slice none 0 0, .slice none 0 0] := by simp [valWs]
theorem valWs_len : ∀ xs : List Nat, (valWs xs).length = xs.length * 3
  | [] => rfl
  | n :: xs => by
    show ([Value.int .u64 (n : Int), .slice none 0 0, .slice none 0 0] ++ valWs xs).length = _
    rw [List.length_append, valWs_len xs]
    show 3 + xs.length * 3 = (xs.length + 1) * 3
    omega
theorem valWs_at : ∀ (xs : List Nat) (i j n : Nat), xs[i]? = some n → j < 3 → (valWs xs)[i * 3 + j]? = ([.int .u64 (n : Int), .slice none 0 0, .slice none 0 0] : List Value)[j]?
  | [], _, _, _, h, _ => by cases h
  | x :: xs, 0, j, n, h, hj => by
    cases h
    show ([Value.int .u64 (x : Int), .slice none 0 0, .slice none 0 0] ++ valWs xs)[0 * 3 + j]? = _
    rw [Nat.zero_mul, Nat.zero_add, List.getElem?_append_left (by exact hj)]
  | x :: xs, i + 1, j, n, h, hj => by
    show ([Value.int .u64 (x : Int), .slice none 0 0, .slice none 0 0] ++ valWs xs)[(i + 1) * 3 + j]? = _
    rw [List.getElem?_append_right (by show 3 ≤ _; omega)]
    show (valWs xs)[(i + 1) * 3 + j - 3]? = _
    rw [show (i + 1) * 3 + j - 3 = i * 3 + j by omega]
    exact valWs_at xs i j n h hj
theorem valWs_one (n : Nat) : ∀ u ∈ ([.int .u64 (n : Int), .slice none 0 0, .slice none 0 0] : List Value), u.oneCell' = true := by
  intro u hu
  simp only [List.mem_cons, List.not_mem_nil, or_false] at hu
  rcases hu with rfl | rfl | rfl <;> rfl
theorem byt_one (ab : Option Addr) (n c : Nat) : ∀ u ∈ ([.int .u64 0, .slice ab n c, .slice none 0 0] : List Value), u.oneCell' = true := by
  intro u hu
  simp only [List.mem_cons, List.not_mem_nil, or_false] at hu
  rcases hu with rfl | rfl | rfl <;> rfl
theorem recV_at : ∀ (xs : List Nat) (bo : Option (List UInt8)) (i : Nat) (x : Val), (recV xs bo)[i]? = some x → (∃ n, xs[i]? = some n ∧ x = .mk n [] []) ∨ (i = xs.length ∧ ∃ b, bo = some b ∧ x = .mk 0 b [])
  | [], none, _, _, h => by cases h
  | [], some b, 0, x, h => by cases h; exact .inr ⟨rfl, b, rfl, rfl⟩
  | [], some b, i + 1, _, h => by cases h
  | n :: xs, bo, 0, x, h => by cases h; exact .inl ⟨n, rfl, rfl⟩
  | n :: xs, bo, i + 1, x, h => by
    rcases recV_at xs bo i x h with ⟨m, h1, h2⟩ | ⟨h1, h2⟩
    · exact .inl ⟨m, h1, h2⟩
    · exact .inr ⟨by rw [h1]; rfl, h2⟩
/-- Values of numbers, of the call's own. -/
theorem vals_ownN {w : World} {base : Nat} {v : Value} (xs : List Nat) (h : w.ownsRow base 68 3 v xs.length (valWs xs)) (h1 : ∀ x ∈ xs, x < 18446744073709551616) (hl : xs.length ≤ 1000) : Vals w 1 v (recV xs none) := by
  have e : (recV xs none).length = xs.length := by rw [recV_len]; rfl
  rcases h.2 with ⟨hv, h0⟩ | ⟨g, cap, cur, hv, hg, hk, hc, hm, hs, ht⟩
  · subst hv
    exact ⟨none, 0, by rw [e, h0], by rw [e]; unfold maxLen; omega, fun h => by omega⟩
  · subst hv
    refine ⟨some ⟨g, 0, none⟩, cap, by rw [e], by rw [e]; unfold maxLen; omega, fun _ => ⟨g, 0, rfl, Blk.lt hk, by rw [e]; exact hc, fun i x hx => ?_⟩⟩
    rcases recV_at xs none i x hx with ⟨n, hn, rfl⟩ | ⟨_, b, hb, _⟩
    · have hat := fun (j : Nat) (u : Value) (hj : j < 3) (hu : ([.int .u64 (n : Int), .slice none 0 0, .slice none 0 0] : List Value)[j]? = some u) => World.ownsRow.cells h (g := g) rfl (i * 3 + j) u ((valWs_at xs i j n hn hj).trans hu)
      simp only [Addr.add_mid, Nat.zero_add] at hat
      rw [Nat.zero_add]
      exact ⟨hat 0 _ (by decide) rfl, ⟨_, hat 1 _ (by decide) rfl, seg_nil _, Nat.zero_le _⟩, ⟨none, 0, hat 2 _ (by decide) rfl, Nat.zero_le _, fun h => by simp [Val.l] at h⟩, h1 n (List.mem_of_getElem? hn)⟩
    · cases hb
/-- Values of numbers and bytes, of the call's own. -/
theorem vals_ownB {w : World} {base : Nat} {v : Value} (xs : List Nat) (b : List UInt8) (ab : Option Addr) (cb : Nat) (h : w.ownsRow base 68 3 v (xs.length + 1) (valWs xs ++ [.int .u64 0, .slice ab b.length cb, .slice none 0 0])) (hS : Seg w (.slice ab b.length cb) b) (hb : b.length ≤ maxLen) (h1 : ∀ x ∈ xs, x < 18446744073709551616) (hl : xs.length ≤ 1000) : Vals w 1 v (recV xs (some b)) := by
  have e : (recV xs (some b)).length = xs.length + 1 := by rw [recV_len]; rfl
  rcases h.2 with ⟨hv, h0⟩ | ⟨g, cap, cur, hv, hg, hk, hc, hm, hs, ht⟩
  · cases h0
  · subst hv
    refine ⟨some ⟨g, 0, none⟩, cap, by rw [e], by rw [e]; unfold maxLen; omega, fun _ => ⟨g, 0, rfl, Blk.lt hk, by rw [e]; exact hc, fun i x hx => ?_⟩⟩
    have hcs := fun (j : Nat) (u : Value) hu => World.ownsRow.cells h (g := g) rfl j u hu
    simp only [Addr.add_mid, Nat.zero_add] at hcs
    rw [Nat.zero_add]
    rcases recV_at xs (some b) i x hx with ⟨n, hn, rfl⟩ | ⟨rfl, b', hb', rfl⟩
    · have hi := (List.getElem?_eq_some_iff.1 hn).1
      have hat := fun (j : Nat) (u : Value) (hj : j < 3) (hu : ([.int .u64 (n : Int), .slice none 0 0, .slice none 0 0] : List Value)[j]? = some u) => hcs (i * 3 + j) u (by rw [List.getElem?_append_left (by rw [valWs_len]; omega)]; exact (valWs_at xs i j n hn hj).trans hu)
      exact ⟨hat 0 _ (by decide) rfl, ⟨_, hat 1 _ (by decide) rfl, seg_nil _, Nat.zero_le _⟩, ⟨none, 0, hat 2 _ (by decide) rfl, Nat.zero_le _, fun h => by simp [Val.l] at h⟩, h1 n (List.mem_of_getElem? hn)⟩
    · cases hb'
      have hat := fun (j : Nat) (u : Value) (hu : ([.int .u64 0, .slice ab b.length cb, .slice none 0 0] : List Value)[j]? = some u) => hcs (xs.length * 3 + j) u (by rw [List.getElem?_append_right (by rw [valWs_len]; omega), valWs_len, Nat.add_sub_cancel_left]; exact hu)
      exact ⟨hat 0 _ rfl, ⟨_, hat 1 _ rfl, hS, hb⟩, ⟨none, 0, hat 2 _ rfl, Nat.zero_le _, fun h => by simp [Val.l] at h⟩, by show 0 < _; omega⟩
def xsK (x : MS) : List Nat := (numK x.k).map fun n => (getM x n.1).toNat
def boK (x : MS) (nb : List UInt8) : Option (List UInt8) := if x.k = 2 then some nb else if x.k = 5 then some x.b else none
set_option maxRecDepth 100000 in
set_option maxHeartbeats 8000000 in
theorem mvalues_any (x : MS) (mc : List Value) (ab : Option Addr) (cb : Nat) (nb : List UInt8) (w : World) (hmc : mc.length = 36) (hS : Seg w (.slice ab x.b.length cb) x.b) (hbl : x.b.length ≤ maxLen) (HN0 : ∀ n ∈ numK x.k, 0 ≤ getM x n.1 ∧ getM x n.1 < 9223372036854775808)
    (HE0 : x.k = 2 → ∀ V, Below w.heap.size w V → Calls Try.prog 36 #[.agg mc.toArray] V fun e w' => ∃ b k, e = .returned (.tuple #[b, .int .i64 k]) ∧ Own w' V.heap.size b nb ∧ Below V.heap.size V w') :
    Calls Try.prog 17 #[.agg (msA x mc (.slice ab x.b.length cb))] w fun e w' => ∃ v, e = .returned v ∧ Vals w' 1 v (recV (xsK x) (boK x nb)) ∧ Below w.heap.size w w' := by
  have kB0 := Blk.new w 28 (msA x mc (.slice ab x.b.length cb))
  have hB0 := (Below.refl w.heap.size w).alloc (Nat.le_refl _) (.cells (msA x mc (.slice ab x.b.length cb)) 28)
  have HNO : Hid (Calls Try.prog 32 #[.pointer (some ⟨w.heap.size, 0, none⟩)] (w.alloc (.cells (msA x mc (.slice ab x.b.length cb)) 28)) fun e w' => ∃ v, e = .returned v ∧ NumsAt w' w.heap.size v (numK x.k) ∧ Below (w.alloc (.cells (msA x mc (.slice ab x.b.length cb)) 28)).heap.size (w.alloc (.cells (msA x mc (.slice ab x.b.length cb)) 28)) w') := numsOf_any w.heap.size x.k _ (kB0.cell (msA_k _ _ _)) kB0.lt
  have HAT : Hid (∀ n ∈ numK x.k, (1 ≤ n.1 ∧ n.1 ≤ 7) ∧ 0 ≤ getM x n.1 ∧ getM x n.1 < 9223372036854775808) := fun n hn => ⟨(numK_at hn).1, HN0 n hn⟩
  have HL6 : Hid ((numK x.k).length ≤ 6) := numK_len x.k
  have HXS : Hid (xsK x = (numK x.k).map fun n => (getM x n.1).toNat) := rfl
  have HGET : Hid (∀ V, Blk V w.heap.size 28 (msA x mc (.slice ab x.b.length cb)) → ∀ j, 1 ≤ j → j ≤ 7 → V.cell? ⟨w.heap.size, j, none⟩ = some (.int .i64 (getM x j))) := fun V hV j h1 h2 => hV.cell (msA_get x mc _ j h1 h2)
  have HMAN : Hid (∀ V, Blk V w.heap.size 28 (msA x mc (.slice ab x.b.length cb)) → V.rangeAt w.heap.size 8 mc) := fun V hV => msA_range x mc _ _ V hV
  have HBOD : Hid (∀ V, Blk V w.heap.size 28 (msA x mc (.slice ab x.b.length cb)) → V.cell? ⟨w.heap.size, 44, none⟩ = some (.slice ab x.b.length cb)) := fun V hV => hV.cell (msA_body x mc _ hmc)
  have HK : Hid (∀ V, Blk V w.heap.size 28 (msA x mc (.slice ab x.b.length cb)) → V.cell? ⟨w.heap.size, 0, none⟩ = some (.int .i64 x.k)) := fun V hV => hV.cell (msA_k x mc _)
  have HSB : Hid (∀ V, Below w.heap.size w V → Seg V (.slice ab x.b.length cb) x.b) := fun V hV => hS.below hV (Nat.le_refl _)
  have HBL : Hid (x.b.length ≤ maxLen) := hbl
  have hi : (Try.prog.info? 25).map (·.size) = some mc.length := by rw [hmc]; exact info_manW
  have HEN : Hid (x.k = 2 → ∀ V, Below w.heap.size w V → Calls Try.prog 36 #[.agg mc.toArray] V fun e w' => ∃ b k, e = .returned (.tuple #[b, .int .i64 k]) ∧ Own w' V.heap.size b nb ∧ Below V.heap.size V w') := HE0
  have HBO : Hid (boK x nb = if x.k = 2 then some nb else if x.k = 5 then some x.b else none) := rfl
  have HGN : Hid (∀ j, getM x j = getM x j) := fun _ => rfl
  clear HN0 HE0 hS hbl hmc
  generalize hML : msA x mc (.slice ab x.b.length cb) = MC at *
  clear hML
  generalize hXX : xsK x = XS at *
  generalize hBB : boK x nb = BO at *
  generalize getM x = GF at *
  generalize x.k = kk at *
  generalize x.b = BD at *
  clear HGN hXX hBB
  go_enter Try.func17, Try.ntmps17
  go_wp2_with fail
  refine HNO.out.mono ?_
  rintro e w1 ⟨v, rfl, hN1, hb1⟩
  have kB1 := kB0.below hb1 kB0.lt
  have hB1 := hB0.trans (hb1.mono hB0.size)
  generalize numK kk = L at *
  obtain ⟨ao, c, e1, hN0⟩ := hN1
  subst e1
  have HN1 : Hid (∀ (i : Nat) n, L[i]? = some n → ∃ g, ao = some ⟨g, 0, none⟩ ∧ g < w1.heap.size ∧ w1.cell? ⟨g, i * 3, none⟩ = some (.pointer (some ⟨w.heap.size, n.1, none⟩)) ∧ w1.cell? ⟨g, i * 3 + 1, none⟩ = some (.int .i64 (n.2.1 : Int)) ∧ w1.cell? ⟨g, i * 3 + 2, none⟩ = some (.int .i64 (n.2.2 : Int))) := hN0
  have HBW : Hid (w.heap.size ≤ w1.heap.size ∧ w.heap.size < w1.heap.size) := ⟨hB1.size, kB1.lt⟩
  clear hN0 hb1 HNO kB0 hB0
  go_wp2_with fail
  go_loopw [3, 10] (fun v i wr => ∃ j : Nat, i = .int .i64 (j : Int) ∧ j ≤ L.length ∧ wr.ownsRow w1.heap.size 68 3 v j (valWs (XS.take j)) ∧ Below w1.heap.size w1 wr) (fun _ i _ => L.length - (intOf i).toNat)
  case atStart => exact ⟨0, rfl, Nat.zero_le _, ⟨rfl, .inl ⟨rfl, rfl⟩⟩, Below.refl _ _⟩
  case round =>
    obtain ⟨j, rfl, hj, hown, hBr⟩ := hrel
    by_cases hlt : j < L.length
    · have hnj : L[j]? = some L[j] := List.getElem?_eq_getElem hlt
      obtain ⟨g, e2, hg, c0, c1, c2⟩ := HN1.out j L[j] hnj
      subst e2
      have hat := HAT.out L[j] (List.getElem_mem hlt)
      have HTK : Hid (XS.take (j + 1) = XS.take j ++ [(GF L[j].1).toNat]) := by
        show _ = _
        rw [HXS.out, ← List.map_take, ← List.map_take, List.take_succ_eq_append_getElem hlt, List.map_append]
        rfl
      generalize L[j] = nn at *
      obtain ⟨O, A, C⟩ := nn
      simp only at hat c0 c1 c2
      have d0 := (hBr.cell (p := ⟨g, j * 3, none⟩) hg).trans c0
      have d1 := (hBr.cell (p := ⟨g, j * 3 + 1, none⟩) hg).trans c1
      have d2 := (hBr.cell (p := ⟨g, j * 3 + 2, none⟩) hg).trans c2
      have cO := HGET.out wr (kB1.below hBr kB1.lt) O hat.1.1 hat.1.2
      obtain ⟨Y, hY⟩ : ∃ Y : Nat, GF O = (Y : Int) := ⟨(GF O).toNat, by omega⟩
      have cv := conv_u64W Y (by omega)
      have HTK : Hid (XS.take (j + 1) = XS.take j ++ [Y]) := by
        have := HTK.out
        rw [hY, Int.toNat_natCast] at this
        exact this
      rw [hY] at cO
      have hne : w.heap.size < wr.heap.size := Nat.lt_of_lt_of_le HBW.out.2 hBr.size
      have hne2 : w.heap.size ≠ wr.heap.size := by omega
      have ix := index_nums g L.length c j hlt
      have i1 : (j : Int) < (L.length : Int) := by omega
      have hwj : IntKind.i64.wrap ((j : Int) + 1) = (j : Int) + 1 := by have := HL6.out; rw [IntKind.wrap_i64]; omega
      have hj6 : j < 6 := by have := HL6.out; omega
      have HJ : Hid (j < L.length) := hlt
      obtain ⟨w3, hw3⟩ : ∃ w3, w3 = wr.alloc (.cells #[.pointer (some ⟨w.heap.size, O, none⟩), .int .i64 (A : Int), .int .i64 (C : Int)] 59) := ⟨_, rfl⟩
      have HW3 : Hid (wr.alloc (.cells #[.pointer (some ⟨w.heap.size, O, none⟩), .int .i64 (A : Int), .int .i64 (C : Int)] 59) = w3) := hw3.symm
      have hB3 := hBr.alloc hBr.size (.cells #[.pointer (some ⟨w.heap.size, O, none⟩), .int .i64 (A : Int), .int .i64 (C : Int)] 59)
      have hown3 := World.ownsRow.alloc hown (.cells #[.pointer (some ⟨w.heap.size, O, none⟩), .int .i64 (A : Int), .int .i64 (C : Int)] 59)
      have cO3 : (wr.alloc (.cells #[.pointer (some ⟨w.heap.size, O, none⟩), .int .i64 (A : Int), .int .i64 (C : Int)] 59)).cell? ⟨w.heap.size, O, none⟩ = some (.int .i64 (Y : Int)) := (((Below.refl wr.heap.size wr).alloc (Nat.le_refl _) _).cell (p := ⟨w.heap.size, O, none⟩) hne).trans cO
      obtain ⟨v4, W4, hr4, ho4, -, hb4⟩ := app_oneW 42 68 _ 3 56 under_valsW info_valW3 rfl (by decide) (by decide) _ w1.heap.size j _ _ [.int .u64 (Y : Int), .slice none 0 0, .slice none 0 0] hown3 rfl (valWs_one Y) (by omega) hB3.size
      have HB4 := hb4 (Nat.le_refl _) hB3 hB3.size
      simp only [World.size_alloc] at hr4
      rw [← valWs_snoc, ← HTK.out] at ho4
      have HO4 : Hid (W4.ownsRow w1.heap.size 68 3 v4 (j + 1) (valWs (XS.take (j + 1)))) := ho4
      clear hown hown3 ho4 hb4 hB3 hBr hw3 HW3 hnj hat hlt hj c0 c1 c2 cO hY
      go_wp2_with (at_builtin; refine app_ranW _ W4 rfl _ _ 42 rfl _ _ v4 rfl rfl hr4 ?_)
      go_roundw
      case rel => exact ⟨j + 1, by go_num, HJ.out, HO4.out, HB4⟩
      case measure => have := HJ.out; simp [intOf]; omega
    · have i1 : ¬ (j : Int) < (L.length : Int) := by omega
      have hxl : j = XS.length := by rw [HXS.out, List.length_map]; omega
      rw [hxl, List.take_length] at hown
      have HX64 : Hid (∀ y ∈ XS, y < 18446744073709551616) := fun y hy => by
        rw [HXS.out] at hy
        obtain ⟨n, hn, rfl⟩ := List.mem_map.1 hy
        have := HAT.out n hn
        omega
      have HXL : Hid (XS.length ≤ 6) := by show _ ≤ 6; have := HL6.out; omega
      have kBr := kB1.below hBr kB1.lt
      have k0 := HK.out wr kBr
      have k44 := HBOD.out wr kBr
      have hrm := HMAN.out wr kBr
      have HBZ : Hid (Below w.heap.size w wr) := hB1.trans (hBr.mono HBW.out.1)
      by_cases hk2 : kk = 2
      · have HE := HEN.out hk2 wr HBZ.out
        have HBO2 : Hid (BO = some nb) := by show _ = _; rw [HBO.out, if_pos hk2]
        subst hk2
        clear hlt hj hxl kBr kB1 k44 HEN HK
        go_wp2_with (refine wpList_load_mid rfl 25 _ rfl w.heap.size 8 rfl mc _ hrm Try.underlying25 rfl hi ?_)
        refine HE.mono ?_
        rintro e w5 ⟨b5, k5, rfl, ho5, hb5⟩
        have hB5 := hBr.trans (hb5.mono hBr.size)
        have hown5 := ownsRow_belowW hown hb5
        obtain ⟨a5, c5, rfl⟩ := ho5.seg.shapeD
        obtain ⟨v7, W7, hr7, ho7, hg7, hb7⟩ := app_oneW 42 68 _ 3 56 under_valsW info_valW3 rfl (by decide) (by decide) w5 w1.heap.size _ _ _ [.int .u64 0, .slice a5 nb.length c5, .slice none 0 0] hown5 rfl (byt_one a5 nb.length c5) (by have := HXL.out; omega) hB5.size
        have hs7 := ((ho5.alloc (.cells #[.int .u64 0, .slice a5 nb.length c5, .slice none 0 0] 68)).grown hg7 (by
          cases ha : (Value.slice a5 nb.length c5).ownBlock with
          | none => exact .inl rfl
          | some q =>
            refine .inr fun e => ?_
            have h1 := (ho5.blocks q ha).1
            have h2 := (World.ownsRow.lt hown q e.symm).2
            omega)).seg
        have HB7 := hb7 (Nat.le_refl _) hB5 hB5.size
        have HV : Hid (Vals W7 1 v7 (recV XS BO)) := by
          show Vals _ _ _ _
          rw [HBO2.out]
          exact vals_ownB XS nb a5 c5 ho7 hs7 ho5.maxL HX64.out (by have := HXL.out; omega)
        have HBF : Hid (Below w.heap.size w W7) := hB1.trans (HB7.mono HBW.out.1)
        clear hown hown5 ho7 hb7 hb5 hB5 hBr HB7 HE hs7 hg7 ho5 k0 hrm
        go_wp2_with (at_builtin; refine app_ranW _ W7 rfl _ _ 42 rfl _ _ v7 rfl rfl hr7 ?_)
        go_ret
        exact ⟨_, rfl, HV.out, HBF.out⟩
      · have d2 : (kk == 2) = false := beq_eq_false_iff_ne.2 hk2
        by_cases hk5 : kk = 5
        · have HBO2 : Hid (BO = some BD) := by show _ = _; rw [HBO.out, if_neg hk2, if_pos hk5]
          subst hk5
          have hsb := HSB.out wr HBZ.out
          obtain ⟨v7, W7, hr7, ho7, hg7, hb7⟩ := app_oneW 42 68 _ 3 56 under_valsW info_valW3 rfl (by decide) (by decide) wr w1.heap.size _ _ _ [.int .u64 0, .slice ab BD.length cb, .slice none 0 0] hown rfl (byt_one ab BD.length cb) (by have := HXL.out; omega) hBr.size
          have HB7 := hb7 (Nat.le_refl _) hBr hBr.size
          have HBF : Hid (Below w.heap.size w W7) := hB1.trans (HB7.mono HBW.out.1)
          have HV : Hid (Vals W7 1 v7 (recV XS BO)) := by
            show Vals _ _ _ _
            rw [HBO2.out]
            exact vals_ownB XS BD ab cb ho7 (HSB.out W7 HBF.out) HBL.out HX64.out (by have := HXL.out; omega)
          clear hown ho7 hb7 hBr HB7 hg7 hrm hk2 hlt hj hxl kBr kB1 HEN HK hsb d2
          go_wp2_with (at_builtin; refine app_ranW _ W7 rfl _ _ 42 rfl _ _ v7 rfl rfl hr7 ?_)
          go_ret
          exact ⟨_, rfl, HV.out, HBF.out⟩
        · have d5 : (kk == 5) = false := beq_eq_false_iff_ne.2 hk5
          have HBO2 : Hid (BO = none) := by show _ = _; rw [HBO.out, if_neg hk2, if_neg hk5]
          have HV : Hid (Vals wr 1 u3 (recV XS BO)) := by
            show Vals _ _ _ _
            rw [HBO2.out]
            exact vals_ownN XS hown HX64.out (by have := HXL.out; omega)
          clear hown hBr hrm hk2 hk5 hlt hj hxl kBr kB1 HEN HK k44
          go_wp2
          go_ret
          exact ⟨_, rfl, HV.out, HBZ.out⟩
end Go.Proofs.Ytgfcindkfnjeoaa
