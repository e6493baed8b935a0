/-
  What is proved here: a plan for the disk beneath a store leaves the store as it is.
  Conditions: those that each fact names.
-/
import Derived.Test.YtbegphfideopoaaGreatJStoreLast
namespace Go.Proofs.YtbegphfideopoaaGreat
open Go.RowKit Go.Maps

/-- A step of the disk alone, beneath a log. -/
theorem PB.overL {w : World} {G : Nat} {L : PLay} {C : Nat → Prop} {s : DS} {l : LS} (h : PB w G L C s l) : ∃ CD, OD w L CD s ∧ (∀ q, CD q → C q) ∧ ∀ w' s', s'.now.length = s.now.length → OD w' L (Fr CD w w') s' → Chg CD w w' → PB w' G L (Fr C w w') s' l ∧ Chg C w w' := by
  obtain ⟨CD, len, bg, tv, tb, h1, h2, h3, h4, h5, h6, h7, h8⟩ := h.body
  refine ⟨CD, h1, h2, fun w' s' hn k1 k2 => ?_⟩
  have hsz : sizeS s' = sizeS s := by unfold sizeS halfS; rw [hn]
  refine ⟨⟨⟨Fr CD w w', len, bg, tv, tb, k1, fun q hq => ?_, ?_, h4.chg k2 (fun k hk e => (h7 k hk).2 e), .inl h5, fun e => ?_, fun q hq => ⟨.inl (h7 q hq).1, fun e => ?_⟩, h8⟩, fun q hq => ?_, h.n, h.gen, h.b, h.sure, h.one⟩, k2.weaken h2⟩
  · rcases hq with hq | hq
    · exact .inl (h2 q hq)
    · exact .inr hq
  · rw [hsz]
    exact Blk.chg h3 k2 h6
  · rcases e with e | e
    · exact h6 e
    · have := h.lt G h5; omega
  · rcases e with e | e
    · exact (h7 q hq).2 e
    · have := h.lt q (h7 q hq).1; omega
  · rcases hq with hq | hq
    · exact Nat.lt_of_lt_of_le (h.lt q hq) k2.size
    · exact hq.2
/-- The disk's Plan, beneath a store. -/
theorem plan_any8 {w : World} {SG : Nat} {L : PLay} {C : Nat → Prop} {x : SS} (h : PSt w SG L C x) (bv : Value) (bs : List UInt8) (hS : Seg w bv bs) (hm : bs.length ≤ 1000000) :
    Calls Tryz.prog 16 #[.pointer (some ⟨L.g, 0, none⟩), bv] w fun e w' => e = .returned (.tuple #[]) ∧ PSt w' SG L (Fr C w w') { x with s := { x.s with next := bs } } ∧ Chg C w w' := by
  obtain ⟨G, Mb, CL, CV, hP, hCL, hCV, hCS, hCM⟩ := h.body
  obtain ⟨CD, hD, hCD, hup⟩ := hP.log.overL
  refine (od_plan L CD x.s bv bs w hD hS hm).mono ?_
  rintro e w' ⟨rfl, hD', hc⟩
  obtain ⟨hB', _⟩ := hup w' { x.s with next := bs } rfl hD' hc
  have hcl : Chg CL w w' := hc.weaken hCD
  have hlt := h.lt
  refine ⟨rfl, ⟨⟨G, Mb, Fr CL w w', CV, ⟨hB', Blk.chg hP.st hcl hP.sg.1, hP.map.chg hcl hP.mb.1 (fun q hq => hP.cv q hq), fun q hq e => ?_, ⟨fun e => ?_, hP.sg.2⟩, ⟨fun e => ?_, hP.mb.2⟩, fun q hq => Nat.lt_of_lt_of_le (hP.lv q hq) hc.size⟩, fun q hq => ?_, fun q hq => .inl (hCV q hq), .inl hCS, .inl hCM⟩, fun q hq => ?_, h.pairs, h.len, h.size⟩, hcl.weaken hCL⟩
  · rcases e with e | e
    · exact hP.cv q hq e
    · have := hP.lv q hq; omega
  · rcases e with e | e
    · exact hP.sg.1 e
    · have := hlt SG hCS; omega
  · rcases e with e | e
    · exact hP.mb.1 e
    · have := hlt Mb hCM; omega
  · rcases hq with hq | hq
    · exact .inl (hCL q hq)
    · exact .inr hq
  · rcases hq with hq | hq
    · exact Nat.lt_of_lt_of_le (hlt q hq) hc.size
    · exact hq.2
end Go.Proofs.YtbegphfideopoaaGreat
