/-
  A range over a function, in a function that is known: a panic of a round crosses it.
-/
import Derived.Test.YtmdkneollidkfaaGreatDoorLxW
import Derived.Test.YtmdkneollidkfaaGreatDoorCkH
import Derived.Lib.SlTrimSet
import Derived.Shelf.Strings.SlTrimAscii
namespace Go.Proofs.YtmdkneollidkfaaGreatDoor.Fl
open Go.RowKit Go.Shelf

/-- a round's end; a panic may cross it -/
def roundPostP (P : Program) (l : Nat) (R : Ending → World → Prop) : Exit → Act → World → Prop
  | .panic chain, a, w => a.defers = [] ∧ R (.panicked chain) w
  | .normal, a, w => roundPost P l R .normal a w
  | .ret, a, w => roundPost P l R .ret a w
  | .exit id, a, w => roundPost P l R (.exit id) a w
  | .goto t, a, w => roundPost P l R (.goto t) a w
  | .outgrown, _, _ => False
theorem roundIn_of_wpInP {F : Fence} {n : Nat} {P : Program} {l : Nat} {f : FuncId} {fn : Func} {tmps : Array Value} {assign body : Code} {w : World} {R : Ending → World → Prop} (hF : F.fn f) (hfn : P.funcs[f]? = some fn)
    (h : assign.wpIn (F.inRound l) n P (Exit.then (fun a₁ w₁ => ∃ w₂, (Instr.beginRound l).run P w₁ = .ok () w₂ ∧ body.wpIn (F.inRound l) n P (roundPostP P l R) a₁ w₂) (fun _ _ _ => False))
      { tmps := tmps, defers := [] } w) :
    RoundIn F n P l f tmps assign body w R := by
  refine ⟨hF, fun c cs hr => ?_⟩
  let b : Frame := { (default : Frame) with fn := f, kind := .normal, roundOf := some l }
  have hb0 : Frame.round l f tmps assign body .normal = b.atR { tmps := tmps, defers := [] } [.code assign, .beginRound, .code body] := by
    simp [Frame.round, Frame.atR, b]
  have hr' : (F.inRound l).room ((c :: cs).length + 1 + n) := hr
  have hF' : (F.inRound l).fn b.fn := hF
  obtain ⟨e, a₁, w₁, hq, harr⟩ := h b [.beginRound, .code body] (c :: cs) rfl hF' hr'
  rw [← hb0] at harr
  cases e with
  | normal =>
    obtain ⟨w₂, hbr, hbody⟩ := hq
    have s1 : StepsIn (Machine.fenced P (F.inRound l)) P (lone (b.atR a₁ [.beginRound, .code body]) (c :: cs) w₁) (lone (b.atR a₁ [.code body]) (c :: cs) w₂) :=
      .one (fenced_calm (fr := b.atR a₁ [.beginRound, .code body]) hF' hr' rfl) (stepR_beginRound rfl hbr)
    obtain ⟨e₂, a₂, w₃, hq₂, harr₂⟩ := hbody b [] (c :: cs) rfl hF' hr'
    cases e₂ with
    | normal =>
      obtain ⟨v, w₄, hend, hR⟩ := hq₂
      exact ⟨.returned v, w₄, hR, (StepsIn.trans harr s1).trans (StepsIn.trans harr₂ (.one (fenced_calm (fr := b.atR a₂ []) hF' hr' rfl) (stepR_round_end rfl rfl hend)))⟩
    | ret =>
      obtain ⟨v, w₄, hend, hR⟩ := hq₂
      obtain ⟨k₁, hs⟩ := harr₂.2 rfl
      exact ⟨.returned v, w₄, hR, (StepsIn.trans harr s1).trans (StepsIn.trans hs (.one (fenced_calm (fr := b.atR a₂ (.code .ret :: k₁)) hF' hr' rfl) (stepR_round_ret rfl rfl hend)))⟩
    | exit id =>
      obtain ⟨v, w₄, hend, hR⟩ := hq₂
      obtain ⟨k₁, hk, hs⟩ := harr₂.2 rfl rfl
      exact ⟨.returned v, w₄, hR, (StepsIn.trans harr s1).trans (StepsIn.trans hs (.one (fenced_calm (fr := b.atR a₂ (.code (.exit id) :: k₁)) hF' hr' rfl) (stepR_round_exit rfl rfl hk hend)))⟩
    | goto t =>
      obtain ⟨v, w₄, hend, hR⟩ := hq₂
      obtain ⟨k₁, hk, hs⟩ := harr₂.2 rfl rfl
      exact ⟨.returned v, w₄, hR, (StepsIn.trans harr s1).trans (StepsIn.trans hs (.one (fenced_calm (fr := b.atR a₂ (.code (.goto t) :: k₁)) hF' hr' rfl) (stepR_round_goto rfl rfl hk hend)))⟩
    | panic chain =>
      obtain ⟨hd, hR⟩ := hq₂
      obtain ⟨todo, hs⟩ := harr₂
      have hl : Frame.leaving P { b.atR a₂ todo with mode := .panicking chain } w₃ (.panicked chain) := ⟨rfl, hd, fn, hfn⟩
      exact ⟨.panicked chain, w₃, hR, (StepsIn.trans harr s1).trans (StepsIn.trans hs (.one (fenced_leaving (F := F.inRound l) (n := n) hF' hr' hl) (step_leave_panicked hl)))⟩
    | outgrown => exact hq₂.elim
  | exit id => exact hq.elim
  | goto t => exact hq.elim
  | ret => exact hq.elim
  | panic chain => exact hq.elim
  | outgrown => exact hq.elim
/-- what a code does in a function that is known -/
def wpAt (f : FuncId) (F : Fence) (n : Nat) (P : Program) (c : Code) (Q : Exit → Act → World → Prop) (a : Act) (w : World) : Prop :=
  ∀ (b : Frame) (k : List Item) (cs : List Frame), b.fn = f → b.roundOf = F.round → F.fn b.fn → F.room (cs.length + 1 + n) →
    ∃ e a' w', Q e a' w' ∧ ArrivesIn (Machine.fenced P F) P (lone (b.atR a (.code c :: k)) cs w) b k cs e a' w'
theorem wpAt_of {f : FuncId} {F : Fence} {n : Nat} {P : Program} {c : Code} {Q : Exit → Act → World → Prop} {a : Act} {w : World} (h : c.wpIn F n P Q a w) : wpAt f F n P c Q a w :=
  fun b k cs _ => h b k cs
theorem wpAt_mono {f : FuncId} {F : Fence} {n : Nat} {P : Program} {c : Code} {Q Q' : Exit → Act → World → Prop} {a : Act} {w : World} (h : wpAt f F n P c Q a w) (hq : ∀ e a w, Q e a w → Q' e a w) : wpAt f F n P c Q' a w :=
  fun b k cs hf hro hb hr => let ⟨e, a', w', q, r⟩ := h b k cs hf hro hb hr; ⟨e, a', w', hq _ _ _ q, r⟩
theorem wpAt_seq {f : FuncId} {F : Fence} {n : Nat} {P : Program} {x y : Code} {Q : Exit → Act → World → Prop} {a : Act} {w : World} (h : wpAt f F n P x (Exit.then (wpAt f F n P y Q) Q) a w) : wpAt f F n P (Code.seq x y) Q a w := by
  intro b k cs hf hro hb hr
  have h0 : (lone (b.atR a (.code (.seq x y) :: k)) cs w).fenced P F := fenced_calm hb hr rfl
  obtain ⟨e, a₁, w₁, hq, harr⟩ := h b (.code y :: k) cs hf hro hb hr
  cases e with
  | normal =>
    obtain ⟨e₂, a₂, w₂, hq₂, harr₂⟩ := hq b k cs hf hro hb hr
    exact ⟨e₂, a₂, w₂, hq₂, .of_steps (.head h0 stepR_seq harr) harr₂⟩
  | exit id => exact ⟨_, a₁, w₁, hq, .of_steps (.one h0 stepR_seq) (.pass (x := .code y) rfl (fun _ _ => .inl (by simp)) harr)⟩
  | goto l => exact ⟨_, a₁, w₁, hq, .of_steps (.one h0 stepR_seq) (.pass (x := .code y) rfl (fun _ _ => .inl (by simp)) harr)⟩
  | ret => exact ⟨_, a₁, w₁, hq, .of_steps (.one h0 stepR_seq) (.pass (x := .code y) rfl (fun _ _ => .inl (by simp)) harr)⟩
  | panic ch => exact ⟨_, a₁, w₁, hq, .of_steps (.one h0 stepR_seq) (.pass (x := .code y) rfl (fun _ _ => .inl (by simp)) harr)⟩
  | outgrown => exact ⟨_, a₁, w₁, hq, .of_steps (.one h0 stepR_seq) (.pass (x := .code y) rfl (fun _ _ => .inl (by simp)) harr)⟩
theorem wpAt_range {f : FuncId} {F : Fence} {n : Nat} {P : Program} {g : Operand} {ps : Array Tmp} {assign body : Code} {Q : Exit → Act → World → Prop} {a : Act} {w : World}
    (h : ∃ (l : Nat) (mark : List Deferred) (w₁ : World) (d : Deferred) (w₁' : World) (f' : FuncId) (args : Array Value) (w₂ : World),
      (Instr.enterLoop f a.tmps ps assign body F.round).run P w = .ok (l, mark) w₁ ∧
      (resolve a.eval (rangeCall g l) 0).run P w₁ = .ok d w₁' ∧
      (∀ f', Target.leads P w₁' d.target d.args = some f' → F.fn f') ∧
      (invoke d.target d.args).run P w₁' = .ok (.enter f' args) w₂ ∧
      (F.depth.isSome = true → 1 ≤ n) ∧
      CallsIn F (n - 1) P f' args w₂ (rangePost F n P l Q { a with defers := mark ++ a.defers })) :
    wpAt f F n P (Code.rangeFunc g ps assign body) Q a w := by
  intro b k cs hbf hro hb hr
  obtain ⟨l, mark, w₁, d, w₁', f', args, w₂, he, hres, hlead, hinv, hn, hF, hcall⟩ := h
  subst hbf
  rw [← hro] at he
  have h0 : (lone (b.atR a (.code (.rangeFunc g ps assign body) :: k)) cs w).fenced P F := by
    refine fenced_lone (.inl hb) (fun f' hf' => hlead f' ?_) (Fence.room_le hr (by omega))
    have hev := Frame.eval_atR b a (.code (.rangeFunc g ps assign body) :: k)
    simp only [Frame.atR] at hev
    simp only [Frame.about, Frame.atR, he, hev, hres] at hf'
    exact hf'
  have henter := stepR_rangeFunc (P := P) (b := b) (a := a) (k := k) (cs := cs) (w := w) he hres hinv
  have hroom : F.room ((b.atR { a with defers := mark ++ a.defers } (.inRangeFunc l :: k) :: cs).length + 1 + (n - 1)) := Fence.room_enter hr hn
  obtain ⟨e, w₃, fr, hR, hsteps, hfn, hleave⟩ := hcall (b.atR { a with defers := mark ++ a.defers } (.inRangeFunc l :: k) :: cs) hroom
  cases e with
  | outgrown =>
    obtain ⟨a₀, w₀, hq⟩ := hR
    exact ⟨.outgrown, a₀, w₀, hq, .inr (Outgrown.of_steps (.one henter) hsteps)⟩
  | returned v =>
    have hl : (lone fr (b.atR { a with defers := mark ++ a.defers } (.inRangeFunc l :: k) :: cs) w₃).fenced P F := fenced_leaving (hfn ▸ hF) hroom hleave
    obtain ⟨jump, w₄, hend, hj⟩ := hR
    have sback : StepsIn (Machine.fenced P F) P (lone (b.atR a (.code (.rangeFunc g ps assign body) :: k)) cs w) (lone (b.atR { a with defers := mark ++ a.defers } ((jump.map Item.code).toList ++ k)) cs w₄) := by
      refine .head h0 henter (StepsIn.trans hsteps (.head hl ?_ (.one (fenced_calm (fr := b.atR { a with defers := mark ++ a.defers } (.endRangeFunc l :: k)) hb hr rfl) (stepR_endRangeFunc hend))))
      rw [← finish_atR_inRangeFunc l v]; exact step_leave_returned hleave
    cases jump with
    | none => exact ⟨.normal, _, w₄, hj, sback⟩
    | some c =>
      obtain ⟨e', a'', w₅, hq, harr⟩ := hj b k cs hro hb hr
      exact ⟨e', a'', w₅, hq, .of_steps sback harr⟩
  | panicked chain =>
    have hl : (lone fr (b.atR { a with defers := mark ++ a.defers } (.inRangeFunc l :: k) :: cs) w₃).fenced P F := fenced_leaving (hfn ▸ hF) hroom hleave
    refine ⟨.panic chain, _, w₃, hR, .inRangeFunc l :: k, .head h0 henter (StepsIn.trans hsteps (.one hl ?_))⟩
    rw [← Frame.raise_atR]; exact step_leave_panicked hleave
theorem callsIn_of_wpAt_marks {F : Fence} {n : Nat} {P : Program} {f : FuncId} {fn : Func} {c : Code} {args : Array Value} {w : World} {R : Ending → World → Prop}
    (hf : P.funcs[f]? = some fn) (hb : fn.body = some c) (hF : F.fn f)
    (h : wpAt f F n P c (bodyPostM F n P fn R) { tmps := args ++ Array.replicate (fn.ntmps - args.size) undef, defers := [] } w) (hro : F.round = none := by rfl) : CallsIn F n P f args w R := by
  refine ⟨hF, fun cs hr => ?_⟩
  let b : Frame := { (default : Frame) with fn := f, kind := .normal, roundOf := none }
  have henter : Frame.enter P f args .normal =
      b.atR { tmps := args ++ Array.replicate (fn.ntmps - args.size) undef, defers := [] } [.code c] := by
    simp [Frame.enter, Frame.atR, hf, hb, b]
  obtain ⟨e, a', w', hq, harr⟩ := h b [] cs rfl hro.symm hF hr
  rw [← henter] at harr
  cases e with
  | normal =>
    obtain ⟨e', w'', fr', hR, hs, hfn, hl⟩ := leaves_stepsInM a'.defers .returning w' { b.atR a' [] with mode := .returning } cs rfl rfl rfl hf rfl hF hr hq
    exact ⟨e', w'', fr', hR, ComesIn.of_steps (StepsIn.trans harr (.one (fenced_calm (fr := b.atR a' []) hF hr rfl) (stepR_end rfl))) hs, hfn, hl⟩
  | ret =>
    obtain ⟨todo, hs₀⟩ := harr.1 rfl
    obtain ⟨e', w'', fr', hR, hs, hfn, hl⟩ := leaves_stepsInM a'.defers .returning w' { b.atR a' todo with mode := .returning } cs rfl rfl rfl hf rfl hF hr hq
    exact ⟨e', w'', fr', hR, ComesIn.of_steps hs₀ hs, hfn, hl⟩
  | panic chain =>
    obtain ⟨todo, hs₀⟩ := harr
    obtain ⟨e', w'', fr', hR, hs, hfn, hl⟩ := leaves_stepsInM a'.defers (.panicking chain) w' { b.atR a' todo with mode := .panicking chain } cs rfl rfl rfl hf rfl hF hr hq
    exact ⟨e', w'', fr', hR, ComesIn.of_steps hs₀ hs, hfn, hl⟩
  | exit id => exact hq.elim
  | goto l => exact hq.elim
  | outgrown => exact ⟨.outgrown, w', b, hq, harr.resolve_left (by simp [b]), rfl, trivial⟩
end Go.Proofs.YtmdkneollidkfaaGreatDoor.Fl

/-
  A chunk, as the program comes to it.
-/
namespace Go.Proofs.YtmdkneollidkfaaGreatDoor.Fl
open Go.RowKit

abbrev blkL : List UInt8 := [32, 9, 10, 13]
abbrev isBl (c : UInt8) : Bool := blankN c.toNat
theorem blk_has (c : UInt8) : blkL.contains c = isBl c := by
  unfold isBl blankN
  have h : ∀ n : UInt8, (c == n) = (c.toNat == n.toNat) := fun n => by
    rw [Bool.eq_iff_iff, beq_iff_eq, beq_iff_eq]
    exact ⟨fun e => by rw [e], fun e => UInt8.toNat_inj.1 e⟩
  simp only [blkL, List.contains_cons, List.contains_nil, Bool.or_false, h]
  rw [show (32 : UInt8).toNat = 32 from rfl, show (9 : UInt8).toNat = 9 from rfl, show (10 : UInt8).toNat = 10 from rfl, show (13 : UInt8).toNat = 13 from rfl]
  simp only [Bool.or_assoc]
theorem blk_has' : (fun c => blkL.contains c) = isBl := funext blk_has
theorem trimR_cons (c : UInt8) (l : List UInt8) : trimR (c :: l) = if trimR l = [] then (if isBl c = true then [] else [c]) else c :: trimR l := by
  unfold trimR
  rw [List.reverse_cons, List.dropWhile_append]
  cases h : l.reverse.dropWhile fun c => blankN c.toNat with
  | nil =>
    simp only [List.isEmpty_nil, if_true, List.reverse_nil]
    rw [List.dropWhile_cons]
    by_cases hb : isBl c = true
    · rw [if_pos hb, if_pos hb]; rfl
    · rw [if_neg hb, if_neg hb]; rfl
  | cons d m => simp
theorem trim_comm (l : List UInt8) : (trimR l).dropWhile isBl = trimR (l.dropWhile isBl) := by
  induction l with
  | nil => rfl
  | cons c l ih =>
    rw [List.dropWhile_cons]
    by_cases hb : isBl c = true
    · rw [if_pos hb, ← ih, trimR_cons, if_pos hb]
      split
      · next h => rw [h]
      · rw [List.dropWhile_cons, if_pos hb]
    · rw [if_neg hb, trimR_cons, if_neg hb]
      split
      · rw [List.dropWhile_cons, if_neg hb]
      · rw [List.dropWhile_cons, if_neg hb]
theorem trimS_eq (l : List UInt8) : Lib.trimS l blkL = trimR (l.dropWhile isBl) := by
  unfold Lib.trimS Lib.trimLeftS Lib.trimRightS
  rw [← trim_comm, show (fun x => blkL.contains x) = isBl from blk_has']
  rfl
theorem endL_shift (n : Nat) : ∀ (l : List UInt8) (p c : Nat), l.length ≤ n → endL (p + c) l = (endL p l).map (· + c) := by
  induction n with
  | zero =>
    intro l p c h
    have : l = [] := List.eq_nil_of_length_eq_zero (by omega)
    subst this
    rfl
  | succ n ih =>
    intro l p c h
    match l, h with
    | [], _ => rfl
    | [x], _ =>
      rw [endL, endL]
      split <;> rfl
    | x :: y :: l, h =>
      simp only [List.length_cons] at h
      rw [endL, endL]
      split
      · split
        · rw [show p + c + 2 = p + 2 + c by omega]; exact ih l (p + 2) c (by omega)
        · rfl
      · rw [show p + c + 1 = p + 1 + c by omega]; exact ih (y :: l) (p + 1) c (by simp; omega)
theorem endL_blank (l : List UInt8) : ∀ p, endL p l = endL (p + (l.takeWhile isBl).length) (l.dropWhile isBl) := by
  induction l with
  | nil => intro p; rfl
  | cons c l ih =>
    intro p
    rw [List.takeWhile_cons, List.dropWhile_cons]
    by_cases hb : isBl c = true
    · have hc : c ≠ 33 := fun e => by rw [e] at hb; exact absurd hb (by decide)
      rw [if_pos hb, if_pos hb, endL_no p c l hc, ih (p + 1), List.length_cons, show p + 1 + (l.takeWhile isBl).length = p + ((l.takeWhile isBl).length + 1) by omega]
    · rw [if_neg hb, if_neg hb]; rfl
theorem drop_run (l : List UInt8) (f : UInt8 → Bool) : l.drop (l.takeWhile f).length = l.dropWhile f := by
  have h := List.takeWhile_append_dropWhile (p := f) (l := l)
  generalize l.takeWhile f = x at *
  generalize l.dropWhile f = y at *
  rw [← h, List.drop_left]
theorem drop_blank (s : ByteArray) (p : Nat) : (sb s).drop (runE blankN s p) = ((sb s).drop p).dropWhile isBl := by
  unfold runE
  rw [← List.drop_drop]
  exact drop_run _ _
theorem while_stop (l : List UInt8) (m : Nat) : ((l.dropWhile isBl).take m).dropWhile isBl = (l.dropWhile isBl).take m := by
  cases h : l.dropWhile isBl with
  | nil => simp
  | cons c d =>
    have hc : isBl c = false := by
      have := List.head_dropWhile_not (p := isBl) (l := l) (by rw [h]; simp)
      simpa [h] using this
    cases m with
    | zero => simp
    | succ m => rw [List.take_succ_cons, List.dropWhile_cons, if_neg (by rw [hc]; decide)]
theorem while_all (x y : List UInt8) (h : ∀ c ∈ x, isBl c = true) : (x ++ y).dropWhile isBl = y.dropWhile isBl := by
  induction x with
  | nil => rfl
  | cons c x ih =>
    rw [List.cons_append, List.dropWhile_cons, if_pos (h c (List.mem_cons_self ..))]
    exact ih fun d hd => h d (List.mem_cons_of_mem _ hd)
theorem take_while (l : List UInt8) (k : Nat) (hk : (l.takeWhile isBl).length ≤ k) : (l.take k).dropWhile isBl = (l.dropWhile isBl).take (k - (l.takeWhile isBl).length) := by
  have h := List.takeWhile_append_dropWhile (p := isBl) (l := l)
  have ha : ∀ c ∈ l.takeWhile isBl, isBl c = true := fun c hc => by
    have := List.all_takeWhile (p := isBl) (l := l)
    rw [List.all_eq_true] at this
    exact this c hc
  have hs := while_stop l (k - (l.takeWhile isBl).length)
  generalize l.takeWhile isBl = x at *
  generalize l.dropWhile isBl = y at *
  rw [← h, List.take_append, List.take_of_length_le hk, while_all _ _ ha, hs]
theorem unE_nil {l : List UInt8} (h : unE l = []) : l = [] := by
  match l, h with
  | [], _ => rfl
  | [_], h => simp [unE] at h
  | c :: d :: l, h =>
    rw [unE] at h
    split at h <;> cases h
/-- the text of a file has no chunk more -/
theorem chunk_none {s : ByteArray} {p : Nat} (hp : p ≤ s.size) (h : endL 0 ((sb s).drop p) = none) : ∃ t b, chunkR s p = (t, runE blankN s p, b, false) ∧ (t = [] ↔ runE blankN s p = s.size) := by
  have h1 : endL (runE blankN s p) ((sb s).drop (runE blankN s p)) = none := by
    rw [drop_blank, show runE blankN s p = p + (((sb s).drop p).takeWhile isBl).length from rfl, ← endL_blank, show p = 0 + p by omega, endL_shift _ _ 0 p (Nat.le_refl _), show 0 + p = p by omega, h]; rfl
  obtain ⟨_, hle⟩ := runE_le (f := blankN) hp
  unfold chunkR
  rw [chB_endL _ _ _ _ (Nat.le_refl _), h1]
  refine ⟨_, _, rfl, ?_⟩
  dsimp only
  rw [List.nil_append, trimR_unE]
  constructor
  · intro e
    have e1 := unE_nil e
    rcases Nat.lt_or_ge (runE blankN s p) s.size with h2 | h2
    · have h3 := runE_not (f := blankN) hp h2
      rw [drop_at h2, trimR_cons] at e1
      rw [show isBl (s[runE blankN s p]'h2) = false from h3] at e1
      split at e1
      · simp at e1
      · cases e1
    · omega
  · intro e
    rw [e, List.drop_of_length_le (by rw [sb_len]; omega)]
    rfl
/-- the text of a file has one chunk more -/
theorem chunk_some {s : ByteArray} {p k : Nat} (hp : p ≤ s.size) (h : endL 0 ((sb s).drop p) = some k) : p + k < s.size ∧ chunkR s p = (unE (Lib.trimS (((sb s).drop p).take k) blkL), runE blankN s p, p + k + 1, true) := by
  have h0 := endL_ge _ _ 0 k (Nat.le_refl _) h
  rw [List.length_drop, sb_len] at h0
  have h1 : endL (runE blankN s p) ((sb s).drop (runE blankN s p)) = some (p + k) := by
    rw [drop_blank, show runE blankN s p = p + (((sb s).drop p).takeWhile isBl).length from rfl, ← endL_blank, show p = 0 + p by omega, endL_shift _ _ 0 p (Nat.le_refl _), show 0 + p = p by omega, h]
    simp [Nat.add_comm]
  have h2 := (endL_ge _ _ _ _ (Nat.le_refl _) h1).1
  refine ⟨by omega, ?_⟩
  unfold chunkR
  rw [chB_endL _ _ _ _ (Nat.le_refl _), h1]
  dsimp only
  rw [List.nil_append, trimR_unE, trimS_eq, take_while _ _ (by have : runE blankN s p = p + (((sb s).drop p).takeWhile isBl).length := rfl; omega), drop_blank]
  rw [show p + k - runE blankN s p = k - (((sb s).drop p).takeWhile isBl).length by have : runE blankN s p = p + (((sb s).drop p).takeWhile isBl).length := rfl; omega]
end Go.Proofs.YtmdkneollidkfaaGreatDoor.Fl

/-
  The iterator over a file's chunks.
-/
namespace Go.Proofs.YtmdkneollidkfaaGreatDoor.Fl
open Go.RowKit Go.Shelf

abbrev blkB : ByteArray := ⟨#[32, 9, 10, 13]⟩
theorem trimLeft_any (s : ByteArray) (w : World) : Calls Tryz.prog 82 #[.string s, .string blkB] w fun e w' => e = .returned (.string ⟨((sb s).dropWhile isBl).toArray⟩) ∧ Below w.heap.size w w' := by
  have h := Any.strings_TrimLeft_laid Tryz.lays161 (by kernel_rfl) s blkB w (by decide) (ascii_of_all (by decide))
  rw [show Lib.trimLeftS s.data.toList blkB.data.toList = (sb s).dropWhile isBl from by unfold Lib.trimLeftS; rw [show (fun x => blkB.data.toList.contains x) = isBl from blk_has']] at h
  exact h
theorem trim_any (s : ByteArray) (w : World) (hs : s.size ≤ 16777216) : Calls Tryz.prog 56 #[.string s, .string blkB] w fun e w' => e = .returned (.string ⟨(Lib.trimS (sb s) blkL).toArray⟩) ∧ Below w.heap.size w w' :=
  Any.strings_Trim_laid Tryz.lays160 (by kernel_rfl) s blkB w (by omega) (by decide) (ascii_of_all (by decide))
theorem trimS_len (l : List UInt8) : (Lib.trimS l blkL).length ≤ l.length := by
  rw [trimS_eq]
  exact Nat.le_trans (trimR_len _) (List.dropWhile_sublist _).length_le
def ChunksPost (s : ByteArray) (J : Nat → World → Prop) (Jx : World → Prop) (Jp : List PanicEntry → World → Prop) (e : Ending) (w : World) : Prop :=
  ((∃ v, e = .returned v) ∧ ((∃ p a b, J p w ∧ chunkR s p = ([], a, b, false)) ∨ Jx w)) ∨
  (∃ ch, e = .panicked ch ∧ ((∃ p t a b, J p w ∧ chunkR s p = (t, a, b, false) ∧ t ≠ [] ∧ ch = faultK 4 (a : Int)) ∨ Jp ch w))
def posOf (R : Nat) (w : World) : Nat := match w.cell? ⟨R, 3, none⟩ with
  | some (.int _ n) => n.toNat
  | _ => 0
set_option maxRecDepth 100000 in
set_option maxHeartbeats 8000000 in
theorem chunks_any (R l : Nat) (s : ByteArray) (hs : s.size ≤ 16777216) (J : Nat → World → Prop) (Y : List UInt8 → Nat → Nat → World → Prop) (Jx : World → Prop) (Jp : List PanicEntry → World → Prop)
    (hJr : ∀ p W, J p W → p ≤ s.size ∧ ∃ v0 v1, W.heap[R]? = some (.cells #[v0, v1, .string s, .int .i64 (p : Int)] 99 (0, 0)))
    (hJb : ∀ p W W', J p W → Below W.heap.size W W' → J p W')
    (hJs : ∀ p W t a b, J p W → b ≤ s.size → chunkR s p = (t, a, b, true) → Y t a b (W.setCell ⟨R, 3, none⟩ (.int .i64 (b : Int))))
    (hYb : ∀ t a b W W', Y t a b W → Below W.heap.size W W' → Y t a b W')
    (hYm : ∀ t a b W, Y t a b W → MaxAt W)
    (hY : ∀ t a b W, Y t a b W → YieldAt Fence.wide 0 Tryz.prog l #[.string (mkB t), .int .i64 (a : Int)] W fun e W' =>
      (e = .returned (.bool true) ∧ ∃ p, b ≤ p ∧ J p W') ∨ (e = .returned (.bool false) ∧ Jx W') ∨ (∃ ch, e = .panicked ch ∧ Jp ch W'))
    (w : World) (p0 : Nat) (h : J p0 w) :
    Calls Tryz.prog 58 #[.pointer (some ⟨R, 0, none⟩), .func (.yield l) #[] #[]] w (ChunksPost s J Jx Jp) := by
  have HJr := Lib.hid hJr
  have HJb := Lib.hid hJb
  have HJs := Lib.hid hJs
  have HYb := Lib.hid hYb
  have HYm := Lib.hid hYm
  have HY := Lib.hid hY
  clear hJr hJb hJs hYb hYm hY
  go_enter Tryz.func58, Tryz.ntmps58
  go_wp2_with fail
  go_loopw [] (fun wr => ∃ p, Hid (J p wr)) (fun wr => s.size + 1 - posOf R wr)
  case atStart => exact ⟨p0, Lib.hid h⟩
  case round =>
    clear h
    obtain ⟨p, HJ⟩ := hrel
    obtain ⟨hp, v0, v1, hrd⟩ := HJr.out p wr HJ.out
    have f := cells4L hrd
    have l0 := lt_of_blk hrd
    go_upto_region 0 with fail
    go_cut [4] (fun v wx => v = .string (s.extract p s.size) ∧ Hid (Below wr.heap.size wr wx))
    case first =>
      go_quiet (fail)
      go_wp2_with fail
      all_goals go_meet
      all_goals exact ⟨rfl, Lib.hid (_root_.Go.below_drewN (Below.refl _ _) _)⟩
    case rest =>
    obtain ⟨rfl, HB1⟩ := hcut
    have HM0 := Lib.hid (show posOf R wr = p by unfold posOf; rw [f.2.2.2.1]; rfl)
    have HJ1 := Lib.hid (HJb.out p wr wc HJ.out HB1.out)
    clear f l0 hrd HJ HB1 v0 v1
    obtain ⟨_, v0, v1, hrd⟩ := HJr.out p wc HJ1.out
    have f := cells4L hrd
    have l0 := lt_of_blk hrd
    obtain ⟨t, ht⟩ : ∃ t, s.extract p s.size = t := ⟨_, rfl⟩
    have hsb : sb t = (sb s).drop p := by rw [← ht]; exact sb_tail s p
    have hts : t.size ≤ 16777216 := by rw [← sb_len, hsb, List.length_drop, sb_len]; omega
    rw [ht]
    have htl := fun (x : Grow wc) => trimLeft_any t x.w
    obtain ⟨a, ha⟩ : ∃ a, runE blankN s p = a := ⟨_, rfl⟩
    obtain ⟨d, hd⟩ : ∃ d, (sb t).dropWhile isBl = d := ⟨_, rfl⟩
    have hal : a ≤ s.size := by rw [← ha]; exact (runE_le hp).2
    have hda : (s.size : Int) - (d.length : Int) = (a : Int) := by
      have e : d.length = s.size - a := by rw [← hd, hsb, ← drop_blank, ha, List.length_drop, sb_len]
      omega
    rw [hd] at htl
    have HT := Lib.hid (And.intro ht hsb)
    have HA := Lib.hid ha
    clear ht hsb ha hd
    have hx := fun (x : Grow wc) => x.cell
    go_upto_region 1 with fail
    go_cut [5] (fun v wx => v = .int .i64 (a : Int) ∧ Hid (Below wc.heap.size wc wx))
    case first =>
      refine wp_region_grow (by kernel_rfl) (by kernel_rfl) ?_
      repeat (go_big_quiet_step ((go_at_call 82; exact Grow.call _ (htl _))))
      refine wpQuiet_nil ?_
      rintro _ ⟨x, rfl⟩
      have hb := Lib.hid x.below
      clear hx htl
      go_wp2_with fail
      go_meet
      exact ⟨rfl, hb⟩
    case rest =>
    obtain ⟨rfl, HB2⟩ := hcut
    have HJ2 := Lib.hid (HJb.out p _ wc HJ1.out HB2.out)
    clear f l0 hrd HJ1 HB2 v0 v1 hx htl hda d
    obtain ⟨w2, rfl⟩ : ∃ w2, w2 = wc := ⟨_, rfl⟩
    obtain ⟨_, v0, v1, hrd⟩ := HJr.out p w2 HJ2.out
    have f := cells4L hrd
    have l0 := lt_of_blk hrd
    have he := endOf_any t w2 hts
    rw [HT.out.2] at he
    cases hE : endL 0 ((sb s).drop p)
    case none =>
      rw [hE] at he
      have hneg : (endV none) < 0 := by decide
      obtain ⟨t', b', hc, hi⟩ := chunk_none hp hE
      rw [HA.out] at hc hi
      have HC := Lib.hid (And.intro hc hi)
      clear hc hi hE
      by_cases hlt : a < s.size
      · have hlt2 : (a : Int) < (s.size : Int) := by omega
        have hg := fun w' => giveUpK_any (.pointer (some ⟨R, 0, none⟩)) 4 (a : Int) w'
        go_wp2_with (first | (go_at_call 83; refine he.mono ?_; rintro e w4 ⟨rfl, rfl⟩))
        refine (hg _).mono ?_
        rintro e w' ⟨rfl, rfl⟩
        exact ⟨rfl, .inr ⟨_, rfl, .inl ⟨p, t', a, b', HJ2.out, HC.out.1, fun e => by have := HC.out.2.1 e; omega, rfl⟩⟩⟩
      · have hlt2 : ¬ (a : Int) < (s.size : Int) := by omega
        go_wp2_with (first | (go_at_call 83; refine he.mono ?_; rintro e w4 ⟨rfl, rfl⟩))
        refine bodyPost_ret (results_none rfl _ _ _) rfl ?_
        have ea : a = s.size := by omega
        exact .inl ⟨⟨_, rfl⟩, .inl ⟨p, a, b', HJ2.out, by rw [HC.out.1, HC.out.2.2 ea]⟩⟩
    case some k =>
      rw [hE] at he
      obtain ⟨hk, hc⟩ := chunk_some hp hE
      rw [HA.out] at hc
      obtain ⟨T, hT⟩ : ∃ T, Lib.trimS (((sb s).drop p).take k) blkL = T := ⟨_, rfl⟩
      have hTl : T.length ≤ 16777216 := by
        rw [← hT]
        refine Nat.le_trans (trimS_len _) ?_
        rw [List.length_take, List.length_drop, sb_len]; omega
      have hkt : k ≤ t.size := by
        have := congrArg List.length HT.out.2
        rw [sb_len, List.length_drop, sb_len] at this; omega
      have htr := fun w' => trim_any (t.extract 0 k) w' (by rw [show (t.extract 0 k).size = min k t.size from by simp]; omega)
      rw [show sb (t.extract 0 k) = ((sb s).drop p).take k from by rw [sb_extract, HT.out.2]; rfl, hT] at htr
      rw [hT] at hc
      have hY2 := HJs.out p w2 _ a (p + k + 1) HJ2.out (by omega) hc
      rw [show ((p + k + 1 : Nat) : Int) = (p : Int) + (k : Int) + 1 by omega] at hY2
      replace hY2 := Lib.hid hY2
      clear hc hE hT HJ2
      have hpos : ¬ (endV (some k)) < 0 := by show ¬ ((k : Nat) : Int) < 0; omega
      have hev : endV (some k) = (k : Int) := rfl
      rw [hev] at he hpos
      have hk2 : (p : Int) + ((k : Int) + 1) = ((p + k + 1 : Nat) : Int) := by omega
      clear hev
      go_upto_region 6 with (first | (go_at_call 83; refine he.mono ?_; rintro e w4 ⟨rfl, rfl⟩))
      go_upto_region 7 with fail
      clear f l0 hrd he hpos hk2
      go_upto_region 8 with (first | (go_at_call 56; refine (htr _).mono ?_; rintro e w4 ⟨rfl, hb4⟩))
      have hY4 := Lib.hid (HYb.out _ _ _ _ w4 hY2.out hb4)
      have hun := unE_any ⟨T.toArray⟩ w4 (by show T.toArray.size ≤ _; simpa using hTl) (HYm.out _ _ _ w4 hY4.out)
      rw [show sb ⟨T.toArray⟩ = T from sb_mk T] at hun
      clear htr hb4 hY2
      refine (wpIn_wide (n := 1)).1 ?_
      gi_wp2
      refine ⟨trivial, ?_⟩
      gi_at_call 53
      refine (callsIn_wide.2 hun).mono ?_
      rintro e w5 ⟨rfl, hb5⟩
      have hY5 := HYb.out _ _ _ w4 w5 hY4.out hb5
      obtain ⟨fn, tmps, assign, body, hy, hR⟩ := HY.out _ _ _ w5 hY5
      clear hun hb5 hY4 hY5
      gi_wp2
      refine hR.mono ?_
      rintro e w6 (⟨rfl, q, hq, hJ6⟩ | ⟨rfl, hx⟩ | ⟨ch, rfl, hjp⟩)
      · have HQ := Lib.hid hq
        have HJ6 := Lib.hid hJ6
        clear hy hR hq hJ6
        gi_wp2
        go_wp2_with fail
        go_roundw
        case rel => exact ⟨q, HJ6.out⟩
        case measure =>
          obtain ⟨hq6, x0, x1, hrd6⟩ := HJr.out q w6 HJ6.out
          have e : posOf R w6 = q := by unfold posOf; rw [(cells4L hrd6).2.2.2.1]; rfl
          rw [e, HM0.out]
          have := HQ.out
          omega
      · have HX := Lib.hid hx
        clear hy hR hx
        gi_wp2
        go_wp2_with fail
        refine bodyPost_ret (results_none rfl _ _ _) rfl ?_
        exact .inl ⟨⟨_, rfl⟩, .inr HX.out⟩
      · exact ⟨rfl, .inr ⟨ch, rfl, .inr hjp⟩⟩
end Go.Proofs.YtmdkneollidkfaaGreatDoor.Fl

/-
  A range over a file's chunks.
-/
namespace Go.Proofs.YtmdkneollidkfaaGreatDoor.Fl
open Go.RowKit Go.Shelf

theorem wpAt_block {f : FuncId} {F : Fence} {n : Nat} {P : Program} {id : Nat} {c : Code} {Q : Exit → Act → World → Prop} {a : Act} {w : World} (h : wpAt f F n P c (Exit.inBlock id Q) a w) : wpAt f F n P (Code.block id c) Q a w := by
  intro b k cs hf hro hb hr
  have h0 : (lone (b.atR a (.code (.block id c) :: k)) cs w).fenced P F := fenced_calm hb hr rfl
  obtain ⟨e, a₁, w₁, hq, harr⟩ := h b (.inBlock id :: k) cs hf hro hb hr
  cases e with
  | normal => exact ⟨.normal, a₁, w₁, hq, .head h0 stepR_block (StepsIn.trans harr (.one (fenced_calm hb hr rfl) stepR_inBlock))⟩
  | exit id' =>
    by_cases hid : id' = id
    · simp only [Exit.inBlock, hid, if_true] at hq
      exact ⟨.normal, a₁, w₁, hq, .head h0 stepR_block (harr.1 k (by simp [exitTo, hid]))⟩
    · simp only [Exit.inBlock, hid, if_false] at hq
      have this : (id == id') = false := by simp; exact fun h => hid h.symm
      have hx : exitTo id' (.inBlock id :: k) = exitTo id' k := by simp [exitTo, this]
      exact ⟨.exit id', a₁, w₁, hq, fun k' hk => .head h0 stepR_block (harr.1 k' (by rw [hx]; exact hk)),
        fun hr' hk => let ⟨k₁, h1, h2⟩ := harr.2 hr' (by rw [hx]; exact hk); ⟨k₁, h1, .head h0 stepR_block h2⟩⟩
  | goto l =>
    have hx : gotoIn l (.inBlock id :: k) = gotoIn l k := by simp [gotoIn]
    exact ⟨_, a₁, w₁, hq, fun k' hk => .head h0 stepR_block (harr.1 k' (by rw [hx]; exact hk)),
      fun hr' hk => let ⟨k₁, h1, h2⟩ := harr.2 hr' (by rw [hx]; exact hk); ⟨k₁, h1, .head h0 stepR_block h2⟩⟩
  | ret => exact ⟨_, a₁, w₁, hq, .of_steps (.one h0 stepR_block) harr⟩
  | panic ch => exact ⟨_, a₁, w₁, hq, .of_steps (.one h0 stepR_block) harr⟩
  | outgrown => exact ⟨_, a₁, w₁, hq, .of_steps (.one h0 stepR_block) harr⟩
/-- memory has grown, or what has changed are no cells, and none of what was there ahead of B -/
structure Sp (B : Nat) (W W' : World) : Prop where
  os : W'.os = W.os
  tape : W'.tape = W.tape
  output : W'.output = W.output
  size : W.heap.size ≤ W'.heap.size
  low : ∀ k : Nat, k < B → k < W.heap.size → W'.heap[k]? = W.heap[k]?
  cells : ∀ (k : Nat) (cs : Array Value) (T : TypeId) (fr : Nat × Nat), W.heap[k]? = some (Obj.cells cs T fr) → W'.heap[k]? = W.heap[k]?
theorem Sp.below {B : Nat} {W W' : World} (h : Below W.heap.size W W') : Sp B W W' :=
  ⟨h.os, h.tape, h.output, h.size, fun k _ hk => h.block k hk, fun k _ _ _ hk => h.block k (lt_of_blk hk)⟩
theorem Sp.put {B : Nat} {W : World} {l : Nat} {o : Obj} (hl : B ≤ l) (h : W.heap[l]? = some o) (ho : o.isCells = false) (o' : Obj) : Sp B W (W.putObj l o') :=
  ⟨rfl, rfl, rfl, by simp, fun k hk _ => World.putObj_heap_other (by omega), fun k cs T fr hc => World.putObj_heap_other (fun e => by subst e; rw [h] at hc; cases hc; cases ho)⟩
theorem Sp.cell {B : Nat} {W W' : World} (h : Sp B W W') {b o : Nat} {v : Value} (hc : W.cell? ⟨b, o, none⟩ = some v) : W'.cell? ⟨b, o, none⟩ = some v := by
  have hb : ∃ cs T fr, W.heap[b]? = some (.cells cs T fr) := by
    unfold World.cell? at hc
    cases hk : W.heap[b]? with
    | none => simp [hk] at hc
    | some x =>
      cases x <;> simp_all
  obtain ⟨cs, T, fr, hk⟩ := hb
  exact (World.cell?_of_block (a := ⟨b, o, none⟩) (h.cells b cs T fr hk)).trans hc
/-- what is neither a reader, nor a row of classes or of texts -/
def keepO : Obj → Bool
  | .cells _ T _ => T != 99 && (T != 87 && T != 73)
  | _ => true
/-- all that is neither a reader, nor a row of classes or of texts, is as it was -/
def KpN (W W' : World) : Prop := ∀ (k : Nat) (o : Obj), W.heap[k]? = some o → keepO o = true → W'.heap[k]? = some o
theorem KpN.refl (W : World) : KpN W W := fun _ _ h _ => h
theorem KpN.trans {A B C : World} (h : KpN A B) (h' : KpN B C) : KpN A C := fun k o hk ho => h' k o (h k o hk ho) ho
theorem KpN.below {W W' : World} (h : Below W.heap.size W W') : KpN W W' := fun k _ hk _ => (h.block k (lt_of_blk hk)).trans hk
theorem KpN.set {W : World} {R j : Nat} {cs : Array Value} {T : TypeId} {fr : Nat × Nat} (h : W.heap[R]? = some (.cells cs T fr)) (v : Value) (hT : keepO (.cells cs T fr) = false := by rfl) : KpN W (W.setCell ⟨R, j, none⟩ v) := fun k o hk ho =>
  (Below.heap_setCell W ⟨R, j, none⟩ v k (fun e => by subst e; rw [h] at hk; cases hk; rw [hT] at ho; cases ho)).trans hk
/-- what a round's body leaves -/
def ChBody (J : Nat → World → Prop) (Ix : World → Prop) (Ip : List PanicEntry → World → Prop) (b : Nat) (W : World) : Exit → Act → World → Prop
  | .normal, _, W' => (∃ p, b ≤ p ∧ J p W') ∧ KpN W W'
  | .ret, _, W' => Ix W' ∧ KpN W W'
  | .panic ch, a, W' => a.defers = [] ∧ Ip ch W' ∧ KpN W W'
  | _, _, _ => False
set_option maxRecDepth 100000 in
set_option maxHeartbeats 4000000 in
theorem range_chunks {f : FuncId} {fn : Func} (hf : Tryz.prog.funcs[f]? = some fn) {g : Operand} {ps : Array Tmp} {assign body : Code} {Q : Exit → Act → World → Prop} {a : Act} {w : World} (R : Nat) (s : ByteArray) (hs : s.size ≤ 16777216)
    (hg : a.eval g = .func (.func 58) #[.pointer (some ⟨R, 0, none⟩)] #[]) (hps : ps.size = 2)
    (J : Nat → World → Prop) (Y : List UInt8 → Nat → Nat → World → Prop) (Ix : World → Prop) (Ip : List PanicEntry → World → Prop) (A1 : List UInt8 → Nat → Act)
    (hJr : ∀ p W, J p W → p ≤ s.size ∧ ∃ v0 v1, W.heap[R]? = some (.cells #[v0, v1, .string s, .int .i64 (p : Int)] 99 (0, 0)))
    (hJk : ∀ p W W', J p W → Sp w.heap.size W W' → J p W') (hYk : ∀ t x b W W', Y t x b W → Sp w.heap.size W W' → Y t x b W') (hXk : ∀ W W', Ix W → Sp w.heap.size W W' → Ix W')
    (hYm : ∀ t x b W, Y t x b W → MaxAt W)
    (hJs : ∀ p W t x b, J p W → b ≤ s.size → chunkR s p = (t, x, b, true) → Y t x b (W.setCell ⟨R, 3, none⟩ (.int .i64 (b : Int))))
    (h0 : ∃ p, J p w)
    (hassign : ∀ (l : Nat) (t : List UInt8) (x : Nat) (W : World) (K : Act → World → Prop), K (A1 t x) W → assign.wpIn (Fence.wide.inRound l) 0 Tryz.prog (Exit.then K (fun _ _ _ => False)) { tmps := (ps.zip #[.string (mkB t), .int .i64 (x : Int)]).foldl (fun t (p, v) => t.setIfInBounds p v) a.tmps, defers := [] } W)
    (hbody : ∀ (l : Nat) (t : List UInt8) (x b : Nat) (W : World), Y t x b W → body.wpIn (Fence.wide.inRound l) 0 Tryz.prog (ChBody J Ix Ip b W) (A1 t x) W)
    (hdone : ∀ D W, w.heap.size ≤ D → W.heap[D]? = some (.deferred (some [])) → (∃ p x b, J p W ∧ chunkR s p = ([], x, b, false)) → Q .normal { a with defers := { target := .collected D, args := #[] } :: a.defers } W)
    (hret : ∀ D W, w.heap.size ≤ D → W.heap[D]? = some (.deferred (some [])) → Ix W → Q .ret { a with defers := { target := .collected D, args := #[] } :: a.defers } W)
    (hpan : ∀ D W ch, w.heap.size ≤ D → W.heap[D]? = some (.deferred (some [])) → (Ip ch W ∨ ∃ p t x b, J p W ∧ chunkR s p = (t, x, b, false) ∧ t ≠ [] ∧ ch = faultK 4 (x : Int)) → Q (.panic ch) { a with defers := { target := .collected D, args := #[] } :: a.defers } W) :
    wpAt f Fence.wide 2 Tryz.prog (Code.rangeFunc g ps assign body) Q a w := by
  refine wpAt_range ?_
  obtain ⟨W1, hW1⟩ : ∃ W1, (w.alloc (.deferred (some []))).alloc (.loop (recL f a.tmps ps assign body w.heap.size .ready none)) = W1 := ⟨_, rfl⟩
  have hL1 : W1.heap[w.heap.size + 1]? = some (.loop (recL f a.tmps ps assign body w.heap.size .ready none)) := by
    rw [← hW1]
    have := heap_alloc_new (w.alloc (.deferred (some []))) (.loop (recL f a.tmps ps assign body w.heap.size .ready none))
    rwa [World.size_alloc] at this
  have hK1 : W1.heap[w.heap.size]? = some (.deferred (some [])) := by
    rw [← hW1]
    exact (Below.heap_alloc _ _ _ (by rw [World.size_alloc]; omega)).trans (heap_alloc_new w _)
  have hb1 : Below w.heap.size w W1 := by
    rw [← hW1]; exact ((Below.refl _ w).alloc (Nat.le_refl _) _).alloc (by rw [World.size_alloc]; omega) _
  obtain ⟨p0, h0⟩ := h0
  have hJ1 : J p0 W1 := hJk _ _ _ h0 (.below hb1)
  refine ⟨w.heap.size + 1, [{ target := .collected w.heap.size, args := #[] }], W1, { target := .fn (.func 58) #[], args := #[.pointer (some ⟨R, 0, none⟩), .func (.yield (w.heap.size + 1)) #[] #[]] }, W1, 58,
    #[.pointer (some ⟨R, 0, none⟩), .func (.yield (w.heap.size + 1)) #[] #[]], W1, ?_, ?_, ?_, ?_, fun _ => by omega, ?_⟩
  · rw [← hW1]; exact run_enterLoop_outer _ _ _ _ _
  · simp only [resolve, hg]
    simp [go_sem]
  · intro f' _; exact trivial
  · have eg := enters_of Tryz.func58 (by kernel_rfl) rfl
    simp [invoke, go_sem, eg]
  · refine callsIn_wide.2 ?_
    have hmain := chunks_any R (w.heap.size + 1) s hs
      (fun p W => J p W ∧ W.heap[w.heap.size + 1]? = some (.loop (recL f a.tmps ps assign body w.heap.size .ready none)) ∧ W.heap[w.heap.size]? = some (.deferred (some [])))
      (fun t x b W => Y t x b W ∧ W.heap[w.heap.size + 1]? = some (.loop (recL f a.tmps ps assign body w.heap.size .ready none)) ∧ W.heap[w.heap.size]? = some (.deferred (some [])))
      (fun W => Ix W ∧ W.heap[w.heap.size + 1]? = some (.loop (recL f a.tmps ps assign body w.heap.size .done (some .ret))) ∧ W.heap[w.heap.size]? = some (.deferred (some [])))
      (fun ch W => Ip ch W ∧ W.heap[w.heap.size]? = some (.deferred (some [])))
      (fun p W h => hJr p W h.1)
      (fun p W W' ⟨h1, h2, h3⟩ hb => ⟨hJk _ _ _ h1 (.below hb), (hb.block _ (lt_of_blk h2)).trans h2, (hb.block _ (lt_of_blk h3)).trans h3⟩)
      (fun p W t x b ⟨h1, h2, h3⟩ hbs hc => by
        obtain ⟨_, v0, v1, hrd⟩ := hJr p W h1
        have hk := KpN.set (j := 3) hrd (.int .i64 (b : Int))
        exact ⟨hJs p W t x b h1 hbs hc, hk _ _ h2 rfl, hk _ _ h3 rfl⟩)
      (fun t x b W W' ⟨h1, h2, h3⟩ hb => ⟨hYk _ _ _ _ _ h1 (.below hb), (hb.block _ (lt_of_blk h2)).trans h2, (hb.block _ (lt_of_blk h3)).trans h3⟩)
      (fun t x b W h => hYm t x b W h.1)
      ?_ W1 p0 ⟨hJ1, hL1, hK1⟩
    · refine hmain.mono ?_
      rintro e W2 (⟨⟨v, rfl⟩, (⟨p, x, b, ⟨h1, h2, h3⟩, hc⟩ | ⟨h1, h2, h3⟩)⟩ | ⟨ch, rfl, (⟨p, t, x, b, ⟨h1, h2, h3⟩, hc, ht, rfl⟩ | ⟨h1, h3⟩)⟩)
      · refine ⟨none, _, run_endLoop h2 (by simp [recL]), ?_⟩
        refine hdone _ _ (Nat.le_refl _) ((World.putObj_heap_other (by omega)).trans h3) ⟨p, x, b, hJk _ _ _ h1 (.put (by omega) h2 rfl _), hc⟩
      · refine ⟨some .ret, _, run_endLoop h2 (by simp [recL]), ?_⟩
        exact wpIn_ret (hret _ _ (Nat.le_refl _) ((World.putObj_heap_other (by omega)).trans h3) (hXk _ _ h1 (.put (by omega) h2 rfl _)))
      · exact hpan _ _ _ (Nat.le_refl _) h3 (.inr ⟨p, t, x, b, h1, hc, ht, rfl⟩)
      · exact hpan _ _ _ (Nat.le_refl _) h3 (.inl h1)
    · rintro t x b W ⟨h1, h2, h3⟩
      have hlt := lt_of_blk h2
      have hy := run_yield (P := Tryz.prog) (args := #[.string (mkB t), .int .i64 (x : Int)]) h2 (by show 2 = ps.size; exact hps.symm)
      refine ⟨f, _, assign, body, hy, roundIn_of_wpInP trivial hf (hassign _ t x W _ ?_)⟩
      refine ⟨_, run_beginRound h2 rfl, ?_⟩
      have hl2 : (W.putObj (w.heap.size + 1) (.loop (recL f a.tmps ps assign body w.heap.size .busy none))).heap[w.heap.size + 1]? = some (.loop (recL f a.tmps ps assign body w.heap.size .busy none)) := World.putObj_heap_same hlt
      have hk2 : (W.putObj (w.heap.size + 1) (.loop (recL f a.tmps ps assign body w.heap.size .busy none))).heap[w.heap.size]? = some (.deferred (some [])) := (World.putObj_heap_other (by omega)).trans h3
      refine wpIn_mono (hbody (w.heap.size + 1) t x b (W.putObj (w.heap.size + 1) (.loop (recL f a.tmps ps assign body w.heap.size .busy none))) (hYk _ _ _ _ _ h1 (.put (by omega) h2 rfl _))) ?_
      rintro e a3 W3 hp
      cases e with
      | normal =>
        obtain ⟨⟨p, hpb, hj⟩, hk⟩ := hp
        have hl3 := hk _ _ hl2 rfl
        have hk3 := hk _ _ hk2 rfl
        exact ⟨_, _, run_endRound none hl3, .inl ⟨rfl, p, hpb, hJk _ _ _ hj (.put (by omega) hl3 rfl _), World.putObj_heap_same (lt_of_blk hl3), (World.putObj_heap_other (by omega)).trans hk3⟩⟩
      | ret =>
        obtain ⟨hj, hk⟩ := hp
        have hl3 := hk _ _ hl2 rfl
        have hk3 := hk _ _ hk2 rfl
        exact ⟨_, _, run_endRound (some .ret) hl3, .inr (.inl ⟨rfl, hXk _ _ hj (.put (by omega) hl3 rfl _), World.putObj_heap_same (lt_of_blk hl3), (World.putObj_heap_other (by omega)).trans hk3⟩)⟩
      | panic ch =>
        obtain ⟨hd, hj, hk⟩ := hp
        exact ⟨hd, .inr (.inr ⟨ch, rfl, hj, hk _ _ hk2 rfl⟩)⟩
      | exit id => exact hp.elim
      | goto t => exact hp.elim
      | outgrown => exact hp.elim
end Go.Proofs.YtmdkneollidkfaaGreatDoor.Fl
