/-
  A region that draws its order within a round: one walk in the order of the text, where nothing is deferred.
-/
import Derived.Sort.QuietTacIn
import Derived.OwnWalkIn
import Derived.RangeFuncNested
import Derived.Test.YtmdkneollidkfaaGreatDoorPMem
import Derived.Deep.RegionHeld3
namespace Go.Proofs.YtmdkneollidkfaaGreatDoor.Fl
open Go.RowKit

section
variable {F : Fence} {n : Nat} {P : Program} {ops : Array Oper} {C : World → Prop}
def Undeferred (o : Oper) : Prop := ∀ c, o.op ≠ .defer c
theorem quiet_one {o : Oper} {a : Act} {K : Act → Prop} {K' : Act → World → Prop} {Q' : Exit → Act → World → Prop} {w : World} (hd : Undeferred o) (hw : C w) (h : ∀ a w', C w' → K a → K' a w')
    (ha : o.askedIn F P a C) (hh : o.quietIn F n P a C K) : o.wpIn F n P a w K' Q' := by
  obtain ⟨v, h1, h2⟩ := hh
  have h3 := h1 w hw
  unfold Oper.quietAtIn at h3
  unfold Oper.wpIn
  refine ⟨ha w hw, ?_⟩
  rw [Oper.semAt_plain F _ _ hd]
  revert h3
  generalize (execOp a.eval o).run P w = r
  intro h3
  match r, h3 with
  | .ok (.value u) w', h3 =>
    obtain ⟨e1, e2⟩ := h3
    simp only [Oper.uponIn]
    rw [e1, e2]
    exact h _ _ hw h2
  | .ok .skip w', h3 =>
    obtain ⟨e1, e2⟩ := h3
    simp only [Oper.uponIn]
    rw [e1, ← e2]
    exact h _ _ hw h2
  | .ok (.enter f args) w', h3 =>
    obtain ⟨e1, hd, hc⟩ := h3
    simp only [Oper.uponIn]
    rw [e1]
    exact ⟨hd, hc.mono fun e w'' ⟨he, hw''⟩ => by subst he; exact h _ _ hw'' h2⟩
theorem quiet_at {i : Nat} {a : Act} {K : Act → Prop} {K' : Act → World → Prop} {Q' : Exit → Act → World → Prop} {w : World} (hd : ∀ (i : Nat) (o : Oper), ops[i]? = some o → Undeferred o) (hC : C w) (h : ∀ a w', C w' → K a → K' a w')
    (hh : qOpIn F n P ops C i K a) : wpOpIn F n P ops Q' i K' a w := by
  unfold qOpIn at hh
  unfold wpOpIn
  cases ho : ops[i]? with
  | none => rw [ho] at hh; exact h _ _ hC hh
  | some o =>
    rw [ho] at hh
    obtain ⟨ha, hh⟩ := hh
    show if Region.wanted o (yielded ops a.tmps) = true then _ else _
    by_cases hw : Region.wanted o (yielded ops a.tmps) = true
    · rw [if_pos hw] at hh ⊢
      exact quiet_one (hd i o ho) hC h ha hh
    · rw [if_neg hw] at hh ⊢
      exact ⟨ha w hC, h _ _ hC hh⟩
theorem quiet_all {md : Region.Mode} {Q : Act → Prop} {Q' : Exit → Act → World → Prop} (hd : ∀ (i : Nat) (o : Oper), ops[i]? = some o → Undeferred o) (hQ : ∀ a w, C w → Q a → Q' .normal a w) : ∀ (fuel : Nat) (listed : Array Bool) (a : Act) (w : World), C w →
    wpAnyQIn F n P md ops C Q fuel listed a → wpAnyIn F n P md ops Q' fuel listed a w
  | 0, _, _, _, hw, h => ⟨h.1, hQ _ _ hw h.2⟩
  | fuel + 1, _, _, _, hw, h => ⟨fun h0 => hQ _ _ hw (h.1 h0), fun i hi => quiet_at hd hw (fun a' w' hw' => quiet_all hd hQ fuel _ a' w' hw') (h.2 i hi)⟩
theorem wpIn_round_quiet {id : Nat} {Q : Exit → Act → World → Prop} {a : Act} {w : World} (hd : ∀ (i : Nat) (o : Oper), ops[i]? = some o → Undeferred o) (hm : P.follows .mixedOrders = true) (hB : Region.lexB .any ops = true) (hC : C { w with drawn := w.drawn + 1 })
    (h : wpQuietIn F n P ops C (fun a' => ∀ w', C w' → Q .normal a' w') ops.toList a) : (Code.region id ops true).wpIn F n P Q a w := by
  simp only [Region.lexB, Bool.and_eq_true] at hB
  refine wpIn_region_any hm (quiet_all (Q := fun a' => ∀ w', C w' → Q .normal a' w') hd (fun _ w' hw' h => h w' hw') _ _ _ _ hC ?_)
  have := wpAnyQIn_lex (F := F) (n := n) (C := C) (md := .any) hB.1 ops.toList 0 (Array.replicate ops.size false) a (by simp) (by simpa using hB.2) h
  simpa using this
theorem wpIn_round_grow {id : Nat} {Q : Exit → Act → World → Prop} {a : Act} {wr : World} {l : List Oper} (hd : ∀ o ∈ l, Undeferred o) (hm : P.follows .mixedOrders = true) (hB : Region.lexB .any l.toArray = true)
    (h : wpQuietIn F n P l.toArray (fun w' => ∃ x : Grow wr, w' = x.w) (fun a' => ∀ w', (∃ x : Grow wr, w' = x.w) → Q .normal a' w') l a) : (Code.region id l.toArray true).wpIn F n P Q a wr :=
  wpIn_round_quiet (C := fun w' => ∃ x : Grow wr, w' = x.w) (fun i o ho => hd o (by simpa using List.mem_of_getElem? (by simpa using ho))) hm hB ⟨⟨wr.drew, (Below.refl _ _).drew⟩, rfl⟩ (by simpa using h)
theorem Grow.callIn {f : FuncId} {args : Array Value} {wr : World} (x : Grow wr) {v : Value}
    (h : CallsIn F n P f args x.w fun e w' => e = .returned v ∧ Below x.w.heap.size x.w w') : CallsIn F n P f args x.w fun e w'' => e = .returned v ∧ ∃ y : Grow wr, w'' = y.w :=
  h.mono fun _ w' ⟨he, hb⟩ => ⟨he, ⟨⟨w', x.below.trans (hb.mono x.size)⟩, rfl⟩⟩
end
end Go.Proofs.YtmdkneollidkfaaGreatDoor.Fl

/-
  A region that draws its order within a round: walked as any other region, where nothing is deferred and nothing panics.
-/
namespace Go.Proofs.YtmdkneollidkfaaGreatDoor.Fl
open Go.RowKit

/-- what is asked at the end of a region that runs to its end -/
def nrmH (K : Act → World → Prop) (e : Exit) (a : Act) (w : World) : Prop := e = .normal ∧ K a w
theorem nrm_letsH {K : Act → World → Prop} : ¬ LetsOut (nrmH K) := fun ⟨_, _, h, _⟩ => by cases h
section
variable {P : Program} {n l : Nat} {ops : Array Oper} {K0 : Act → World → Prop} {Q : Exit → Act → World → Prop}
theorem lift_opH {o : Oper} {a : Act} {K K' : Act → World → Prop} {w : World} (hd : Undeferred o) (h : ∀ a w, K a w → K' a w) (hh : o.wp P a w K (nrmH K0)) : o.wpIn (Fence.wide.inRound l) n P a w K' Q := by
  refine ⟨fun _ _ => trivial, ?_⟩
  rw [Oper.semAt_plain _ _ _ hd]
  unfold Oper.wp at hh
  revert hh
  generalize (execOp a.eval o).run P w = r
  intro hh
  match r, hh with
  | .ok (.value v) w', hh => exact h _ _ hh
  | .ok .skip w', hh => exact h _ _ hh
  | .ok (.defer d) w', hh => exact h _ _ hh
  | .ok (.enter f args) w', hh =>
    refine ⟨fun hi => (by cases hi), CallsIn.inRound l (callsIn_wide.2 (Calls.mono hh ?_))⟩
    intro e w'' he
    cases e with
    | returned v => exact h _ _ he
    | panicked c => cases he.1
    | outgrown => exact absurd he nrm_letsH
  | .ok (.row row args) w', hh =>
    refine ⟨fun hi => (by cases hi), fun c cs _ => ?_⟩
    obtain ⟨v, w'', hr, hs⟩ := hh c cs
    exact ⟨v, w'', h _ _ hr, stepsIn_wide.2 hs⟩
  | .halt (.panic v) w', hh => cases hh.1
theorem lift_atH {i : Nat} {a : Act} {K K' : Act → World → Prop} {w : World} (hd : ∀ (i : Nat) (o : Oper), ops[i]? = some o → Undeferred o) (h : ∀ a w, K a w → K' a w) (hh : wpOp P ops (nrmH K0) i K a w) : wpOpIn (Fence.wide.inRound l) n P ops Q i K' a w := by
  unfold wpOp at hh
  unfold wpOpIn
  cases ho : ops[i]? with
  | none => rw [ho] at hh; exact h _ _ hh
  | some o =>
    rw [ho] at hh
    show if Region.wanted o (yielded ops a.tmps) = true then _ else _
    by_cases hw : Region.wanted o (yielded ops a.tmps) = true
    · rw [if_pos hw]
      simp only [hw, if_true] at hh
      rcases hh with hh | ⟨_, hh⟩
      · exact lift_opH (hd i o ho) h hh
      · exact absurd hh nrm_letsH
    · rw [if_neg hw]
      simp only [hw] at hh
      exact ⟨fun _ _ => trivial, h _ _ hh⟩
theorem lift_anyH {md : Region.Mode} (hd : ∀ (i : Nat) (o : Oper), ops[i]? = some o → Undeferred o) (hQ : ∀ a w, K0 a w → Q .normal a w) : ∀ (fuel : Nat) (listed : Array Bool) (a : Act) (w : World),
    wpAny P md ops (nrmH K0) fuel listed a w → wpAnyIn (Fence.wide.inRound l) n P md ops Q fuel listed a w
  | 0, _, _, _, h => ⟨h.1, hQ _ _ h.2.2⟩
  | fuel + 1, _, _, _, h => ⟨fun h0 => hQ _ _ (h.1 h0).2, fun i hi => lift_atH hd (fun a' w' hw' => lift_anyH hd hQ fuel _ a' w' hw') (h.2 i hi)⟩
theorem wpIn_round_heldH {id : Nat} {a : Act} {w : World} {S : World → Prop} {li : List Oper} (hd : ∀ o ∈ li, Undeferred o) (hm : P.follows .mixedOrders = true) (hS : S w.drew)
    (h : S w.drew → wpAnyH P .any li.toArray (nrmH fun a' w' => Q .normal a' w') S li.toArray.size (Array.replicate li.toArray.size false) a w.drew) : (Code.region id li.toArray true).wpIn (Fence.wide.inRound l) n P Q a w :=
  wpIn_region_any hm (lift_anyH (K0 := fun a' w' => Q .normal a' w') (fun i o ho => hd o (by simpa using List.mem_of_getElem? (by simpa using ho))) (fun _ _ h => h) _ _ _ _ (wpAny_of_held _ _ _ _ (h hS)))
end
end Go.Proofs.YtmdkneollidkfaaGreatDoor.Fl
