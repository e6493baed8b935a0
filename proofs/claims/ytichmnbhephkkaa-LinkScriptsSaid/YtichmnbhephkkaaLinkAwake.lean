/-
  What is proved here: a new link, as laws hold it; the document's New; the small thing that the statements on link ask first is so.
  Conditions: those that each fact names.
-/
import Derived.Test.YtichmnbhephkkaaLinkTake
import Derived.Test.YtichmnbhephkkaaRefLinkRight
namespace Go.Proofs.Ytichmnbhephkkaa
open Go.RowKit

def TG (G : Nat) : Nat → Prop := fun q => q = G
theorem new_lp {w0 W : World} {G : Nat} {e : Int} (h1 : 1 ≤ e) (h2 : e ≤ 1073741824) (hG : w0.heap.size ≤ G) (hk : Blk W G 69 (linkC (newK e) (.slice none 0 0))) : LP W (TG G) w0.heap.size G (.slice none 0 0) (newK e) :=
  ⟨hk, RowsO.nil _ _ _, newK_ok h1 h2, rfl, (fun q hq => by cases hq), (fun q (hq : q = G) => by subst hq; exact hk.lt), (fun q (hq : q = G) => by subst hq; exact hG), (by intro e; cases e)⟩
theorem index_pks (b off len c I : Nat) (h : I < len) (w : World) : (Instr.indexAt 38 (.slice (some ⟨b, off, none⟩) len c) (.int .i64 (I : Int))).run Try.prog w = .ok (.pointer (some ⟨b, off + I * 6, none⟩)) w := by
  have hs : ∀ w, (sizeOf 34).run Try.prog w = .ok 6 w := fun w => by kernel_rfl
  have hi : (0 : Int) ≤ (I : Int) ∧ (I : Int) < (len : Int) := by omega
  simp [Instr.indexAt, asIntOf, run_underlying under_pks, hs, hi, Addr.add_mid]
  intro h2
  omega
def rlinkC (s : KS) (v : Value) : Array Value := #[.int .i64 s.ep, .int .i64 s.pe, v, .int .i64 (s.fi : Int), .int .i64 (s.se : Int), .int .i64 (s.ne : Int), .int .i64 (s.ti : Int)]
set_option maxRecDepth 100000 in
theorem newR_any (e : Int) (w : World) (h1 : 1 ≤ e) (h2 : e ≤ 1073741824) : Calls Try.prog 9 #[.int .i64 e] w fun r w' => r = .returned (.tuple #[.pointer (some ⟨w.heap.size, 0, none⟩), .int .i64 0]) ∧ Blk w' w.heap.size 47 (rlinkC (newK e) (.slice none 0 0)) ∧ Below w.heap.size w w' := by
  have d1 : decide (e < 1) = false := decide_eq_false (by omega)
  have d2 : decide (1073741824 < e) = false := decide_eq_false (by omega)
  clear h1 h2
  have hB := below_new w (.cells (rlinkC (newK e) (.slice none 0 0)) 47)
  have hk := Blk.new w 47 (rlinkC (newK e) (.slice none 0 0))
  go_enter Try.func9, Try.ntmps9
  go_wp2
  go_ret2
  exact ⟨rfl, hk, hB⟩
set_option maxRecDepth 100000 in
theorem newR_bad (e : Int) (w : World) (h : ¬ (1 ≤ e ∧ e ≤ 1073741824)) : Calls Try.prog 9 #[.int .i64 e] w fun r w' => r = .returned (.tuple #[.pointer none, .int .i64 1]) ∧ w' = w := by
  by_cases h1 : e < 1
  · have d1 : decide (e < 1) = true := decide_eq_true h1
    clear h h1
    go_enter Try.func9, Try.ntmps9
    go_wp2
    go_ret2
    exact ⟨rfl, rfl⟩
  · have d1 : decide (e < 1) = false := decide_eq_false h1
    have d2 : decide (1073741824 < e) = true := decide_eq_true (by omega)
    clear h h1
    go_enter Try.func9, Try.ntmps9
    go_wp2
    go_ret2
    exact ⟨rfl, rfl⟩
def awkP : KP := ⟨1, 1, 0, 0, 0, []⟩
theorem awk_take : takeK (newK 2) awkP = ([], [⟨2, 2, 1, 0, 0, []⟩], ⟨2, 1, 1, 0, 1, 0, []⟩) := by
  unfold takeK
  rw [show rightK awkP = true from by decide]
  rfl
set_option maxRecDepth 100000 in
set_option maxHeartbeats 2000000 in
theorem awake13_any (w : World) : Calls Try.prog 6 #[] w fun e w' => e = .returned (.bool true) ∧ Below w.heap.size w w' := by
  go_enter Try.func6, Try.ntmps6
  go_wp2_with fail
  refine (newK_any 2 w (by decide) (by decide)).mono ?_
  rintro e w1 ⟨G, rfl, hG, hk1, hb1⟩
  have hL1 := new_lp (w0 := w) (by decide) (by decide) hG hk1
  have HT : Hid (Calls Try.prog 15 #[.pointer (some ⟨G, 0, none⟩), .agg #[.int .i64 1, .int .i64 1, .int .i64 0, .int .i64 0, .int .i64 0, .slice none 0 0]] w1 fun e w' => ∃ v' rv pv, e = .returned (.tuple #[rv, pv]) ∧ LP w' (TG G) w.heap.size G v' ⟨2, 1, 1, 0, 1, 0, []⟩ ∧ v'.ownBlock = (Value.slice none 0 0).ownBlock ∧ RowsO w' (TG G) w1.heap.size rv [] ∧ PksO w' (TG G) w1.heap.size pv [⟨2, 2, 1, 0, 0, []⟩] ∧ Chg (LM G (.slice none 0 0)) w1 w') := by
    have := takeK_any w1 (TG G) w.heap.size G (.slice none 0 0) (newK 2) awkP none 0 hL1 hb1.size (segA_nil _ _)
    rw [awk_take] at this
    exact this
  clear hk1 hL1
  go_wp2_with fail
  refine HT.out.mono ?_
  rintro e w2 ⟨v', rv, pv, rfl, hL2, -, -, hP2, hC2⟩
  obtain ⟨b, off, c, a, cc, e1, hbl, hcell, -⟩ := hP2.at (k := 0) rfl
  subst e1
  have k0 : w2.cell? ⟨b, off, none⟩ = some (.int .i64 2) := hcell 0 _ rfl
  have k2 : w2.cell? ⟨b, off + 2, none⟩ = some (.int .i64 1) := hcell 2 _ rfl
  have ix : ∀ w, (Instr.indexAt 38 (.slice (some ⟨b, off, none⟩) 1 c) (.int .i64 0)).run Try.prog w = .ok (.pointer (some ⟨b, off, none⟩)) w := fun w => index_pks b off 1 c 0 (by decide) w
  have HP : Hid (Calls Try.prog 19 #[.pointer (some ⟨G, 0, none⟩)] w2 fun r w' => r = .returned (.int .i64 1) ∧ w' = w2) := peerK_any G _ v' w2 hL2.head
  have hB2 : Below w.heap.size w w2 := hb1.trans (hC2.below (fun k e => by rcases e with e | e; omega; cases e) hb1.size)
  clear HT hcell hP2 hL2 hC2
  go_wp2_with fail
  refine HP.out.mono ?_
  rintro e w3 ⟨rfl, rfl⟩
  go_wp2
  go_ret
  exact ⟨rfl, hB2⟩
end Go.Proofs.Ytichmnbhephkkaa
