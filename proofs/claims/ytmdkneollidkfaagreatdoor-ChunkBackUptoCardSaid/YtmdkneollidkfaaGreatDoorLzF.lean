/-
  What a file has, as the document reads it: its classes and its methods' texts, in rows of the call's own.
-/
import Derived.Test.YtmdkneollidkfaaGreatDoorLzD
namespace Go.Proofs.YtmdkneollidkfaaGreatDoor.Fl
open Go.RowKit

/-- a class (name, the one above, fields, place); a method's text (class, of the class's own side, text, place) -/
abbrev Cls := List UInt8 × List UInt8 × List (List UInt8) × Int
abbrev Src := List UInt8 × Bool × List UInt8 × Int
/-- a row's block is no block of another type -/
theorem own_ne {w : World} {base : Nat} {T T' : TypeId} {size n : Nat} {v : Value} {xs : List Value} (h : w.ownsRow base T size v n xs) {k : Nat} {cs : Array Value} {fr : Nat × Nat} (hk : w.heap[k]? = some (.cells cs T' fr)) (hT : T' ≠ T) : v.ownBlock ≠ some k := by
  intro e
  rcases h.2 with ⟨hv, _⟩ | ⟨g, cap, cur, hv, _, hg, _⟩
  · rw [hv] at e; cases e
  · rw [hv] at e
    injection e with e
    subst e
    rw [hg] at hk
    injection hk with hk
    injection hk with _ hk
    exact hT hk.symm
theorem own_far {w : World} {base base' : Nat} {T T' : TypeId} {size size' n n' : Nat} {v v' : Value} {xs xs' : List Value} (h : w.ownsRow base T size v n xs) (h' : w.ownsRow base' T' size' v' n' xs') (hT : T ≠ T') {j : Nat} (hj : v.ownBlock = some j) : some j ≠ v'.ownBlock := by
  rcases h.2 with ⟨hv, _⟩ | ⟨g, cap, cur, hv, _, hg, _⟩
  · rw [hv] at hj; cases hj
  · rw [hv] at hj
    injection hj with hj
    subst hj
    exact fun e => own_ne h' hg hT e.symm
theorem srcinfo : (Tryz.prog.info? 76).map (fun i => (i.zero, i.size, i.bytes)) = some (some (.agg #[.string ⟨#[]⟩, .bool false, .string ⟨#[]⟩, .int .i64 0]), 4, 48) := by kernel_rfl
def sc_ (l : List Src) : List Value := l.flatMap fun x => [.string (mkB x.1), .bool x.2.1, .string (mkB x.2.2.1), .int .i64 x.2.2.2]
theorem sc__len (l : List Src) : (sc_ l).length = l.length * 4 := by
  induction l with
  | nil => rfl
  | cons x l ih =>
    show (([.string (mkB x.1), .bool x.2.1, .string (mkB x.2.2.1), .int .i64 x.2.2.2] : List Value) ++ sc_ l).length = _
    rw [List.length_append, ih]; simp; omega
theorem sc__app (l m : List Src) : sc_ (l ++ m) = sc_ l ++ sc_ m := List.flatMap_append
def OwnX (w : World) (base : Nat) (v : Value) (l : List Src) : Prop := w.ownsRow base 76 4 v l.length (sc_ l)
theorem OwnX.below {w w' : World} {base : Nat} {v : Value} {xs : List Src} (h : OwnX w base v xs) (hb : Below w.heap.size w w') : OwnX w' base v xs :=
  ⟨h.1, h.2.elim .inl fun ⟨g, cap, cur, hv, hbg, hg, r⟩ => .inr ⟨g, cap, cur, hv, hbg, (hb.block g (lt_of_blk hg)).trans hg, r⟩⟩
theorem OwnX.cell {w : World} {base : Nat} {v : Value} {xs : List Src} (h : OwnX w base v xs) {P k : Nat} (hP : v.ownBlock ≠ some P) (x : Value) : OwnX (w.setCell ⟨P, k, none⟩ x) base v xs := ownsRow_setCell_other h (a := ⟨P, k, none⟩) hP x
theorem OwnX.keep {w w' : World} {base : Nat} {v : Value} {xs : List Src} (h : OwnX w base v xs) (hb : ∀ j, v.ownBlock = some j → w'.heap[j]? = w.heap[j]?) : OwnX w' base v xs :=
  ⟨h.1, h.2.elim .inl fun ⟨g, cap, cur, hv, hbg, hg, r⟩ => .inr ⟨g, cap, cur, hv, hbg, (hb g (by rw [hv]; rfl)).trans hg, r⟩⟩
theorem OwnX.wide {w : World} {base base' : Nat} {v : Value} {xs : List Src} (h : OwnX w base v xs) (hb : base' ≤ base) : OwnX w base' v xs :=
  ⟨h.1, h.2.elim .inl fun ⟨g, cap, cur, hv, hbg, hg, r⟩ => .inr ⟨g, cap, cur, hv, Nat.le_trans hb hbg, hg, r⟩⟩
theorem wpList_append_x {w : World} {base c : Nat} {A : Option Addr} {xs news : List Src} {v : Value} {ops : Array Oper} {rest : List Oper} {o : Oper} {a : Act} {Q : Exit → Act → World → Prop} (hg : o.guard = none) (s x : Operand) (ho : o.op = .call { callee := .builtin .append, args := #[s, x], argTypes := #[43, 43] })
    (hs : a.eval s = v) (hx : a.eval x = .slice A news.length c) (hown : OwnX w base v xs) (hr : Rd w w.heap.size A (sc_ news)) (hA : A = none → news.length = 0) (hone : ∀ v ∈ sc_ news, v.oneCell' = true) (hl : xs.length ≤ 100000000) (hl2 : news.length ≤ 100000000) (hb : base ≤ w.heap.size)
    (h : ∀ A' ts c' w', Hid (ts = xs ++ news) → Hid (OwnX w' base (.slice A' ts.length c') ts) → Hid (Below base w w' ∧ (∀ k, k < w.heap.size → some k ≠ v.ownBlock → w'.heap[k]? = w.heap[k]?) ∧ ((Value.slice A' ts.length c').ownBlock = v.ownBlock ∨ (Value.slice A' ts.length c').ownBlock = some w.heap.size)) → wpList Tryz.prog ops Q rest (a.put o.dst (.slice A' ts.length c')) w') : wpList Tryz.prog ops Q (o :: rest) a w := by
  obtain ⟨i0, hi, hz0, hz1, hz2⟩ := info_parts srcinfo
  refine wpList_append_rd (base := base) (size := 4) (bytes := 48) (n := xs.length) (m := news.length) (c := c) (v := v) (xs := sc_ xs) (news := sc_ news) hg s x ho Tryz.underlying43 hi hz0 hz1 hz2 rfl (by decide) hs hx hown hr (sc__len _) hA hone (by unfold maxLen; omega) (by omega) hb ?_
  intro v' w' happ
  obtain ⟨A', c', rfl, _, _⟩ := happ.slice
  have e : xs.length + news.length = (xs ++ news).length := by simp
  have ho := happ.own
  have hat := happ.at_
  rw [e, show sc_ xs ++ sc_ news = sc_ (xs ++ news) from (sc__app _ _).symm] at ho
  rw [e] at hat ⊢
  exact h A' (xs ++ news) c' w' (Lib.hid rfl) (Lib.hid ho) (Lib.hid ⟨(Below.refl _ _).grown happ.grown hb (fun j hj => (World.ownsRow.lt hown j hj).1), happ.grown.block, hat⟩)
theorem sc__one {w : World} {C : Nat} (x : Src) (h : w.heap[C]? = some (.cells #[.string (mkB x.1), .bool x.2.1, .string (mkB x.2.2.1), .int .i64 x.2.2.2] 76 (0, 0))) : Rd w w.heap.size (some ⟨C, 0, none⟩) (sc_ [x]) := by
  obtain ⟨c0, c1, c2, c3, _⟩ := cells4L h
  refine .inr ⟨C, 0, rfl, lt_of_blk h, fun j v hj => ?_⟩
  have hj' : ([.string (mkB x.1), .bool x.2.1, .string (mkB x.2.2.1), .int .i64 x.2.2.2] : List Value)[j]? = some v := hj
  rw [Nat.zero_add]
  rcases j with _ | _ | _ | _ | j
  · exact c0.trans hj'
  · exact c1.trans hj'
  · exact c2.trans hj'
  · exact c3.trans hj'
  · simp at hj'
theorem clsinfo : (Tryz.prog.info? 75).map (fun i => (i.zero, i.size, i.bytes)) = some (some (.agg #[.string ⟨#[]⟩, .string ⟨#[]⟩, .slice none 0 0, .int .i64 0]), 4, 64) := by kernel_rfl
def cc_ (l : List (Cls × Value)) : List Value := l.flatMap fun x => [.string (mkB x.1.1), .string (mkB x.1.2.1), x.2, .int .i64 x.1.2.2.2]
theorem cc__len (l : List (Cls × Value)) : (cc_ l).length = l.length * 4 := by
  induction l with
  | nil => rfl
  | cons x l ih =>
    show (([.string (mkB x.1.1), .string (mkB x.1.2.1), x.2, .int .i64 x.1.2.2.2] : List Value) ++ cc_ l).length = _
    rw [List.length_append, ih]; simp; omega
theorem cc__app (l m : List (Cls × Value)) : cc_ (l ++ m) = cc_ l ++ cc_ m := List.flatMap_append
def OwnY (w : World) (base : Nat) (v : Value) (l : List (Cls × Value)) : Prop := w.ownsRow base 75 4 v l.length (cc_ l)
theorem OwnY.below {w w' : World} {base : Nat} {v : Value} {xs : List (Cls × Value)} (h : OwnY w base v xs) (hb : Below w.heap.size w w') : OwnY w' base v xs :=
  ⟨h.1, h.2.elim .inl fun ⟨g, cap, cur, hv, hbg, hg, r⟩ => .inr ⟨g, cap, cur, hv, hbg, (hb.block g (lt_of_blk hg)).trans hg, r⟩⟩
theorem OwnY.cell {w : World} {base : Nat} {v : Value} {xs : List (Cls × Value)} (h : OwnY w base v xs) {P k : Nat} (hP : v.ownBlock ≠ some P) (x : Value) : OwnY (w.setCell ⟨P, k, none⟩ x) base v xs := ownsRow_setCell_other h (a := ⟨P, k, none⟩) hP x
theorem OwnY.keep {w w' : World} {base : Nat} {v : Value} {xs : List (Cls × Value)} (h : OwnY w base v xs) (hb : ∀ j, v.ownBlock = some j → w'.heap[j]? = w.heap[j]?) : OwnY w' base v xs :=
  ⟨h.1, h.2.elim .inl fun ⟨g, cap, cur, hv, hbg, hg, r⟩ => .inr ⟨g, cap, cur, hv, hbg, (hb g (by rw [hv]; rfl)).trans hg, r⟩⟩
theorem OwnY.wide {w : World} {base base' : Nat} {v : Value} {xs : List (Cls × Value)} (h : OwnY w base v xs) (hb : base' ≤ base) : OwnY w base' v xs :=
  ⟨h.1, h.2.elim .inl fun ⟨g, cap, cur, hv, hbg, hg, r⟩ => .inr ⟨g, cap, cur, hv, Nat.le_trans hb hbg, hg, r⟩⟩
theorem wpList_append_y {w : World} {base c : Nat} {A : Option Addr} {xs news : List (Cls × Value)} {v : Value} {ops : Array Oper} {rest : List Oper} {o : Oper} {a : Act} {Q : Exit → Act → World → Prop} (hg : o.guard = none) (s x : Operand) (ho : o.op = .call { callee := .builtin .append, args := #[s, x], argTypes := #[42, 42] })
    (hs : a.eval s = v) (hx : a.eval x = .slice A news.length c) (hown : OwnY w base v xs) (hr : Rd w w.heap.size A (cc_ news)) (hA : A = none → news.length = 0) (hone : ∀ v ∈ cc_ news, v.oneCell' = true) (hl : xs.length ≤ 100000000) (hl2 : news.length ≤ 100000000) (hb : base ≤ w.heap.size)
    (h : ∀ A' ts c' w', Hid (ts = xs ++ news) → Hid (OwnY w' base (.slice A' ts.length c') ts) → Hid (Below base w w' ∧ (∀ k, k < w.heap.size → some k ≠ v.ownBlock → w'.heap[k]? = w.heap[k]?) ∧ ((Value.slice A' ts.length c').ownBlock = v.ownBlock ∨ (Value.slice A' ts.length c').ownBlock = some w.heap.size)) → wpList Tryz.prog ops Q rest (a.put o.dst (.slice A' ts.length c')) w') : wpList Tryz.prog ops Q (o :: rest) a w := by
  obtain ⟨i0, hi, hz0, hz1, hz2⟩ := info_parts clsinfo
  refine wpList_append_rd (base := base) (size := 4) (bytes := 64) (n := xs.length) (m := news.length) (c := c) (v := v) (xs := cc_ xs) (news := cc_ news) hg s x ho Tryz.underlying42 hi hz0 hz1 hz2 rfl (by decide) hs hx hown hr (cc__len _) hA hone (by unfold maxLen; omega) (by omega) hb ?_
  intro v' w' happ
  obtain ⟨A', c', rfl, _, _⟩ := happ.slice
  have e : xs.length + news.length = (xs ++ news).length := by simp
  have ho := happ.own
  have hat := happ.at_
  rw [e, show cc_ xs ++ cc_ news = cc_ (xs ++ news) from (cc__app _ _).symm] at ho
  rw [e] at hat ⊢
  exact h A' (xs ++ news) c' w' (Lib.hid rfl) (Lib.hid ho) (Lib.hid ⟨(Below.refl _ _).grown happ.grown hb (fun j hj => (World.ownsRow.lt hown j hj).1), happ.grown.block, hat⟩)
theorem cc__one {w : World} {C : Nat} (x : (Cls × Value)) (h : w.heap[C]? = some (.cells #[.string (mkB x.1.1), .string (mkB x.1.2.1), x.2, .int .i64 x.1.2.2.2] 75 (0, 0))) : Rd w w.heap.size (some ⟨C, 0, none⟩) (cc_ [x]) := by
  obtain ⟨c0, c1, c2, c3, _⟩ := cells4L h
  refine .inr ⟨C, 0, rfl, lt_of_blk h, fun j v hj => ?_⟩
  have hj' : ([.string (mkB x.1.1), .string (mkB x.1.2.1), x.2, .int .i64 x.1.2.2.2] : List Value)[j]? = some v := hj
  rw [Nat.zero_add]
  rcases j with _ | _ | _ | _ | j
  · exact c0.trans hj'
  · exact c1.trans hj'
  · exact c2.trans hj'
  · exact c3.trans hj'
  · simp at hj'
end Go.Proofs.YtmdkneollidkfaaGreatDoor.Fl

/-
  What the document's Read says of a file.
-/
namespace Go.Proofs.YtmdkneollidkfaaGreatDoor.Fl
open Go.RowKit

/-! ### the model -/
def clsR (l : List Tok) (at_ : Int) : Option Cls := match classL l with
  | some (nm, sp, ft) => if clsOk nm ft = true then some (nm, supN sp, wordsA [] ft, at_) else none
  | none => none
abbrev UnitR := (List Cls × List Src) ⊕ (Int × Int)
/-- what stands already, ahead of what comes -/
def preU (cs : List Cls) (ss : List Src) : UnitR → UnitR
  | .inl (a, b) => .inl (cs ++ a, ss ++ b)
  | .inr e => .inr e
theorem preU_nil (r : UnitR) : preU [] [] r = r := by cases r <;> rfl
theorem preU_pre (cs cs' : List Cls) (ss ss' : List Src) (r : UnitR) : preU cs ss (preU cs' ss' r) = preU (cs ++ cs') (ss ++ ss') r := by
  cases r <;> simp [preU]
def endU (s : ByteArray) (meth : Option (List UInt8 × Bool)) : UnitR := if meth.isSome = true then .inr ((s.size : Int), 4) else .inl ([], [])
/-- a file from a place on: of which class are the methods that stand there? its classes and its texts, or a place and what is wrong there -/
def readU (s : ByteArray) (meth : Option (List UInt8 × Bool)) (p : Nat) : UnitR :=
  if hp : p ≤ s.size then
    if (chunkR s p).2.2.2 = false then (if (chunkR s p).1 = [] then endU s meth else .inr (((chunkR s p).2.1 : Int), 4))
    else if hb : p < (chunkR s p).2.2.1 then
      if (chunkR s p).1 = [] then readU s none (chunkR s p).2.2.1
      else match meth with
        | some h => preU [] [(h.1, h.2, (chunkR s p).1, ((chunkR s p).2.1 : Int))] (readU s (some h) (chunkR s p).2.2.1)
        | none => match allW (mkB (chunkR s p).1) 0 with
          | .inr e => .inr (((chunkR s p).2.1 : Int), e.1)
          | .inl l => match clsR l ((chunkR s p).2.1 : Int) with
            | some c => preU [c] [] (readU s none (chunkR s p).2.2.1)
            | none => match headL l with
              | some h => readU s (some h) (chunkR s p).2.2.1
              | none => .inr (((chunkR s p).2.1 : Int), 3)
    else endU s meth
  else endU s meth
termination_by s.size + 1 - p
decreasing_by all_goals omega
theorem chB_ge (n : Nat) : ∀ (l : List UInt8) (q : Nat) (acc : List UInt8), l.length ≤ n → q ≤ (chB q acc l).2.1 ∧ (chB q acc l).2.1 ≤ q + l.length ∧ ((chB q acc l).2.2 = true → (chB q acc l).2.1 < q + l.length) := by
  induction n with
  | zero =>
    intro l q acc h
    have : l = [] := List.eq_nil_of_length_eq_zero (by omega)
    subst this
    simp [chB]
  | succ n ih =>
    intro l q acc h
    match l, h with
    | [], _ => simp [chB]
    | [c], _ =>
      rw [chB]
      split <;> simp
    | c :: d :: l, h =>
      simp only [List.length_cons] at h ⊢
      rw [chB]
      split
      · split
        · obtain ⟨h1, h2, h3⟩ := ih l (q + 2) (acc ++ [33]) (by omega)
          exact ⟨by omega, by omega, fun h => by have := h3 h; omega⟩
        · simp
      · obtain ⟨h1, h2, h3⟩ := ih (d :: l) (q + 1) (acc ++ [c]) (by simp; omega)
        simp only [List.length_cons] at h1 h2 h3
        exact ⟨by omega, by omega, fun h => by have := h3 h; omega⟩
theorem chB_len (n : Nat) : ∀ (l : List UInt8) (q : Nat) (acc : List UInt8), l.length ≤ n → (chB q acc l).1.length ≤ acc.length + l.length := by
  induction n with
  | zero =>
    intro l q acc h
    have : l = [] := List.eq_nil_of_length_eq_zero (by omega)
    subst this
    simp [chB]
  | succ n ih =>
    intro l q acc h
    match l, h with
    | [], _ => simp [chB]
    | [c], _ =>
      rw [chB]
      split <;> simp
    | c :: d :: l, h =>
      simp only [List.length_cons] at h ⊢
      rw [chB]
      split
      · split
        · have := ih l (q + 2) (acc ++ [33]) (by omega); simp at this; omega
        · simp
      · have := ih (d :: l) (q + 1) (acc ++ [c]) (by simp; omega); simp only [List.length_cons, List.length_append, List.length_nil] at this; omega
theorem trimR_len (l : List UInt8) : (trimR l).length ≤ l.length := by
  unfold trimR
  rw [List.length_reverse]
  have := (List.dropWhile_sublist (fun c : UInt8 => blankN c.toNat) (l := l.reverse)).length_le
  rwa [List.length_reverse] at this
theorem chunk_le {s : ByteArray} {p : Nat} (hp : p ≤ s.size) : p < (chunkR s p).2.2.1 ∧ (chunkR s p).2.2.1 ≤ s.size + 1 ∧ (chunkR s p).2.1 ≤ s.size ∧ (chunkR s p).1.length ≤ s.size := by
  obtain ⟨h1, h2⟩ := runE_le (f := blankN) hp
  unfold chunkR
  have hl : ((sb s).drop (runE blankN s p)).length = s.size - runE blankN s p := by rw [List.length_drop, sb_len]
  obtain ⟨h3, h4, _⟩ := chB_ge _ ((sb s).drop (runE blankN s p)) (runE blankN s p) [] (Nat.le_refl _)
  have h5 := chB_len _ ((sb s).drop (runE blankN s p)) (runE blankN s p) [] (Nat.le_refl _)
  have h6 := trimR_len (chB (runE blankN s p) [] ((sb s).drop (runE blankN s p))).1
  rw [hl] at h4 h5
  simp only [List.length_nil, Nat.zero_add] at h5
  dsimp only
  exact ⟨by omega, by omega, h2, by omega⟩
theorem readU_out {s : ByteArray} {m : Option (List UInt8 × Bool)} {p : Nat} (h : ¬ p ≤ s.size) : readU s m p = endU s m := by rw [readU.eq_def, dif_neg h]
theorem readU_in {s : ByteArray} {m : Option (List UInt8 × Bool)} {p : Nat} (hp : p ≤ s.size) {t : List UInt8} {a b : Nat} {e : Bool} (h : chunkR s p = (t, a, b, e)) : readU s m p =
    if e = false then (if t = [] then endU s m else .inr ((a : Int), 4)) else if t = [] then readU s none b else match m with
      | some h => preU [] [(h.1, h.2, t, (a : Int))] (readU s (some h) b)
      | none => match allW (mkB t) 0 with
        | .inr e => .inr ((a : Int), e.1)
        | .inl l => match clsR l (a : Int) with
          | some c => preU [c] [] (readU s none b)
          | none => match headL l with
            | some h => readU s (some h) b
            | none => .inr ((a : Int), 3) := by
  have hl := (chunk_le hp).1
  rw [readU.eq_def, dif_pos hp]
  simp only [h] at hl ⊢
  cases e
  · rfl
  · simp only [Bool.true_eq_false, hl, ↓reduceIte, ↓reduceDIte]
end Go.Proofs.YtmdkneollidkfaaGreatDoor.Fl

/-
  The document's Read.
-/
namespace Go.Proofs.YtmdkneollidkfaaGreatDoor.Fl
open Go.RowKit

/-- what stands while a file is read: the answer (nothing yet), the unit, the class whose methods stand there -/
structure RdW (w0 w : World) (R U O : Nat) (fs : List (Cls × Value)) (ss : List Src) (oc : List UInt8) (om : Bool) (A1 : Option Addr) (c1 : Nat) (A2 : Option Addr) (c2 : Nat) : Prop where
  res : w.heap[R]? = some (.cells #[.slice none 0 0, .slice none 0 0] 45 (0, 0))
  u : w.heap[U]? = some (.cells #[.slice A1 fs.length c1, .slice A2 ss.length c2] 45 (0, 0))
  o : w.heap[O]? = some (.cells #[.string (mkB oc), .bool om, .string ⟨#[]⟩, .int .i64 0] 76 (0, 0))
  bel : Below w0.heap.size w0 w
  hR : w0.heap.size ≤ R
  hU : w0.heap.size ≤ U
  hO : w0.heap.size ≤ O
  nRU : R ≠ U
  ownC : OwnY w w0.heap.size (.slice A1 fs.length c1) fs
  ownF : ∀ x ∈ fs, ∃ A c, x.2 = .slice A x.1.2.2.1.length c ∧ OwnS w w0.heap.size x.2 x.1.2.2.1
  ownX : OwnX w w0.heap.size (.slice A2 ss.length c2) ss
  farO : (Value.slice A2 ss.length c2).ownBlock ≠ some O
theorem RdW.nOU {w0 w : World} {R U O : Nat} {fs : List (Cls × Value)} {ss : List Src} {oc : List UInt8} {om : Bool} {A1 : Option Addr} {c1 : Nat} {A2 : Option Addr} {c2 : Nat} (h : RdW w0 w R U O fs ss oc om A1 c1 A2 c2) : O ≠ U := by
  intro e
  have h1 := h.o
  rw [e, h.u] at h1
  injection h1 with h1
  injection h1 with _ h1
  exact absurd h1 (by decide)
theorem RdW.nRO {w0 w : World} {R U O : Nat} {fs : List (Cls × Value)} {ss : List Src} {oc : List UInt8} {om : Bool} {A1 : Option Addr} {c1 : Nat} {A2 : Option Addr} {c2 : Nat} (h : RdW w0 w R U O fs ss oc om A1 c1 A2 c2) : R ≠ O := by
  intro e
  have h1 := h.o
  rw [← e, h.res] at h1
  injection h1 with h1
  injection h1 with _ h1
  exact absurd h1 (by decide)
theorem RdW.below {w0 w w' : World} {R U O : Nat} {fs : List (Cls × Value)} {ss : List Src} {oc : List UInt8} {om : Bool} {A1 : Option Addr} {c1 : Nat} {A2 : Option Addr} {c2 : Nat} (h : RdW w0 w R U O fs ss oc om A1 c1 A2 c2) (hb : Below w.heap.size w w') : RdW w0 w' R U O fs ss oc om A1 c1 A2 c2 :=
  ⟨(hb.block R (lt_of_blk h.res)).trans h.res, (hb.block U (lt_of_blk h.u)).trans h.u, (hb.block O (lt_of_blk h.o)).trans h.o, h.bel.trans (hb.mono h.bel.size), h.hR, h.hU, h.hO, h.nRU, h.ownC.below hb, fun x hx => (h.ownF x hx).imp fun A ⟨c, e, ho⟩ => ⟨c, e, ho.below hb⟩, h.ownX.below hb, h.farO⟩
theorem OwnS.keep {w w' : World} {base : Nat} {v : Value} {xs : List (List UInt8)} (h : OwnS w base v xs) (hb : ∀ j, v.ownBlock = some j → w'.heap[j]? = w.heap[j]?) : OwnS w' base v xs :=
  ⟨h.1, h.2.elim .inl fun ⟨g, cap, cur, hv, hbg, hg, r⟩ => .inr ⟨g, cap, cur, hv, hbg, (hb g (by rw [hv]; rfl)).trans hg, r⟩⟩
/-- one more text -/
theorem RdW.addX {w0 w w1 w2 : World} {R U O : Nat} {fs : List (Cls × Value)} {ss ts : List Src} {oc : List UInt8} {om : Bool} {A1 : Option Addr} {c1 : Nat} {A2 : Option Addr} {c2 : Nat} {A3 : Option Addr} {c3 : Nat} (h0 : RdW w0 w R U O fs ss oc om A1 c1 A2 c2) (hb : Below w.heap.size w w1)
    (ho : OwnX w2 w0.heap.size (.slice A3 ts.length c3) ts) (hk : Below w0.heap.size w1 w2 ∧ (∀ k, k < w1.heap.size → some k ≠ (Value.slice A2 ss.length c2).ownBlock → w2.heap[k]? = w1.heap[k]?) ∧ ((Value.slice A3 ts.length c3).ownBlock = (Value.slice A2 ss.length c2).ownBlock ∨ (Value.slice A3 ts.length c3).ownBlock = some w1.heap.size)) :
    RdW w0 (w2.setCell ⟨U, 1, none⟩ (.slice A3 ts.length c3)) R U O fs ts oc om A1 c1 A3 c3 := by
  have h := h0.below hb
  obtain ⟨hk1, hk2, hk3⟩ := hk
  have eU := (hk2 U (lt_of_blk h.u) (own_ne h.ownX h.u (by decide)).symm).trans h.u
  have eR := (hk2 R (lt_of_blk h.res) (own_ne h.ownX h.res (by decide)).symm).trans h.res
  have eO := (hk2 O (lt_of_blk h.o) h.farO.symm).trans h.o
  have oC : OwnY w2 w0.heap.size (.slice A1 fs.length c1) fs := h.ownC.keep fun j hj => hk2 j (World.ownsRow.lt h.ownC _ hj).2 (own_far h.ownC h.ownX (by decide) hj)
  refine ⟨(heap_setCell_other _ _ _ _ h.nRU).trans eR, heap_setCell_same _ U 1 _ _ _ eU, (heap_setCell_other _ _ _ _ h.nOU).trans eO, (h.bel.trans hk1).setCell (p := ⟨U, 1, none⟩) h.hU _, h.hR, h.hU, h.hO, h.nRU, oC.cell (own_ne oC eU (by decide)) _, ?_, ho.cell (own_ne ho eU (by decide)) _, ?_⟩
  · intro x hx
    obtain ⟨A, c, e, hf⟩ := h.ownF x hx
    have hf2 : OwnS w2 w0.heap.size x.2 x.1.2.2.1 := hf.keep fun j hj => hk2 j (World.ownsRow.lt hf _ hj).2 (own_far hf h.ownX (by decide) hj)
    exact ⟨A, c, e, hf2.cell (own_ne hf2 eU (by decide)) _⟩
  · rcases hk3 with e | e
    · rw [e]; exact h.farO
    · rw [e]; intro e; injection e with e; exact absurd (lt_of_blk h.o) (by omega)
/-- one more class -/
theorem RdW.addY {w0 w w1 w2 : World} {R U O : Nat} {fs ts : List (Cls × Value)} {ss : List Src} {oc : List UInt8} {om : Bool} {A1 : Option Addr} {c1 : Nat} {A2 : Option Addr} {c2 : Nat} {A3 : Option Addr} {c3 : Nat} {y : Cls × Value} (h0 : RdW w0 w R U O fs ss oc om A1 c1 A2 c2) (hb : Below w.heap.size w w1) (hy : ∃ A c, y.2 = .slice A y.1.2.2.1.length c ∧ OwnS w1 w0.heap.size y.2 y.1.2.2.1) (hts : ts = fs ++ [y])
    (ho : OwnY w2 w0.heap.size (.slice A3 ts.length c3) ts) (hk : Below w0.heap.size w1 w2 ∧ (∀ k, k < w1.heap.size → some k ≠ (Value.slice A1 fs.length c1).ownBlock → w2.heap[k]? = w1.heap[k]?) ∧ ((Value.slice A3 ts.length c3).ownBlock = (Value.slice A1 fs.length c1).ownBlock ∨ (Value.slice A3 ts.length c3).ownBlock = some w1.heap.size)) :
    RdW w0 (w2.setCell ⟨U, 0, none⟩ (.slice A3 ts.length c3)) R U O ts ss oc om A3 c3 A2 c2 := by
  have h := h0.below hb
  obtain ⟨hk1, hk2, _⟩ := hk
  have eU := (hk2 U (lt_of_blk h.u) (own_ne h.ownC h.u (by decide)).symm).trans h.u
  have eR := (hk2 R (lt_of_blk h.res) (own_ne h.ownC h.res (by decide)).symm).trans h.res
  have eO := (hk2 O (lt_of_blk h.o) (own_ne h.ownC h.o (by decide)).symm).trans h.o
  have oX : OwnX w2 w0.heap.size (.slice A2 ss.length c2) ss := h.ownX.keep fun j hj => hk2 j (World.ownsRow.lt h.ownX _ hj).2 (own_far h.ownX h.ownC (by decide) hj)
  refine ⟨(heap_setCell_other _ _ _ _ h.nRU).trans eR, heap_setCell_same _ U 0 _ _ _ eU, (heap_setCell_other _ _ _ _ h.nOU).trans eO, (h.bel.trans hk1).setCell (p := ⟨U, 0, none⟩) h.hU _, h.hR, h.hU, h.hO, h.nRU, ho.cell (own_ne ho eU (by decide)) _, ?_, oX.cell (own_ne oX eU (by decide)) _, h.farO⟩
  intro x hx
  have hx' : ∃ A c, x.2 = .slice A x.1.2.2.1.length c ∧ OwnS w1 w0.heap.size x.2 x.1.2.2.1 := by
    rw [hts, List.mem_append, List.mem_singleton] at hx
    rcases hx with hx | rfl
    · exact h.ownF x hx
    · exact hy
  obtain ⟨A, c, e, hf⟩ := hx'
  have hf2 : OwnS w2 w0.heap.size x.2 x.1.2.2.1 := hf.keep fun j hj => hk2 j (World.ownsRow.lt hf _ hj).2 (own_far hf h.ownC (by decide) hj)
  exact ⟨A, c, e, hf2.cell (own_ne hf2 eU (by decide)) _⟩
/-- another class is opened -/
theorem RdW.open_ {w0 w w1 : World} {R U O : Nat} {fs : List (Cls × Value)} {ss : List Src} {oc : List UInt8} {om : Bool} {A1 : Option Addr} {c1 : Nat} {A2 : Option Addr} {c2 : Nat} (h0 : RdW w0 w R U O fs ss oc om A1 c1 A2 c2) (hb : Below w.heap.size w w1) (oc' : List UInt8) (om' : Bool) :
    RdW w0 ((((w1.setCell ⟨O, 0, none⟩ (.string (mkB oc'))).setCell ⟨O, 1, none⟩ (.bool om')).setCell ⟨O, 2, none⟩ (.string ⟨#[]⟩)).setCell ⟨O, 3, none⟩ (.int .i64 0)) R U O fs ss oc' om' A1 c1 A2 c2 := by
  have h := h0.below hb
  have nUO : U ≠ O := fun e => h.nOU e.symm
  have nC := own_ne h.ownC h.o (by decide)
  refine ⟨?_, ?_, set4 h.o _ _ _ _, (((h.bel.setCell (p := ⟨O, 0, none⟩) h.hO _).setCell (p := ⟨O, 1, none⟩) h.hO _).setCell (p := ⟨O, 2, none⟩) h.hO _).setCell (p := ⟨O, 3, none⟩) h.hO _, h.hR, h.hU, h.hO, h.nRU, (((h.ownC.cell nC _).cell nC _).cell nC _).cell nC _, ?_, (((h.ownX.cell h.farO _).cell h.farO _).cell h.farO _).cell h.farO _, h.farO⟩
  · exact ((heap_setCell_other _ _ _ _ h.nRO).trans ((heap_setCell_other _ _ _ _ h.nRO).trans ((heap_setCell_other _ _ _ _ h.nRO).trans (heap_setCell_other _ _ _ _ h.nRO)))).trans h.res
  · exact ((heap_setCell_other _ _ _ _ nUO).trans ((heap_setCell_other _ _ _ _ nUO).trans ((heap_setCell_other _ _ _ _ nUO).trans (heap_setCell_other _ _ _ _ nUO)))).trans h.u
  · intro x hx
    obtain ⟨A, c, e, hf⟩ := h.ownF x hx
    have nF := own_ne hf h.o (by decide)
    exact ⟨A, c, e, (((hf.cell nF _).cell nF _).cell nF _).cell nF _⟩
theorem midL_le (s : ByteArray) (a b : Nat) : (midL s a b).length ≤ b - a := by
  unfold midL
  rw [List.length_drop, List.length_take]
  omega
theorem tokAt_wd {s : ByteArray} {q k q0 p : Nat} {t : List UInt8} {n : Int} (hq : q ≤ s.size) (h : tokAt s q = .inl (k, t, n, q0, p)) : t.length ≤ 4096 := by
  unfold tokAt at h
  split at h
  · simp only [Sum.inl.injEq, Prod.mk.injEq] at h
    rw [← h.2.1]; simp
  split at h
  · split at h
    · cases h
    · simp only [Sum.inl.injEq, Prod.mk.injEq] at h
      rw [← h.2.1]; omega
  split at h
  · split at h
    · simp only [Sum.inl.injEq, Prod.mk.injEq] at h
      rw [← h.2.1]; simp
    · cases h
  split at h
  · split at h
    · cases h
    · simp only [Sum.inl.injEq, Prod.mk.injEq] at h
      rw [← h.2.1]; simp
  split at h
  · split at h
    · cases h
    · split at h
      · cases h
      · simp only [Sum.inl.injEq, Prod.mk.injEq] at h
        rw [← h.2.1]; omega
  split at h
  · obtain ⟨h1, _, rfl⟩ := ofKw_inl h
    unfold hashR at h1
    split at h1
    · simp only [Sum.inl.injEq, Prod.mk.injEq] at h1
      rw [← h1.2.1]; simp
    split at h1
    · split at h1
      · cases h1
      · split at h1
        · cases h1
        · simp only [Sum.inl.injEq, Prod.mk.injEq] at h1
          rw [← h1.2.1]; omega
    split at h1
    · split at h1
      · cases h1
      · simp only [Sum.inl.injEq, Prod.mk.injEq] at h1
        rw [← h1.2.1]; omega
    · split at h1
      · cases h1
      · simp only [Sum.inl.injEq, Prod.mk.injEq] at h1
        have h2 := midL_le s (q0 + 1) (q0 + 1 + opF s (q0 + 1) 2)
        rcases Nat.lt_or_ge q0 s.size with h5 | h5
        · have h3 := (opF_le s (q0 + 1) (by omega) 2).2
          rw [← h1.2.1]; omega
        · rename_i hsz _ _ _ _ _ _ _ _ _
          omega
  · obtain ⟨h1, _, rfl⟩ := ofKw_inl h
    unfold markR at h1
    split at h1
    · simp only [Sum.inl.injEq, Prod.mk.injEq] at h1
      have h2 := midL_le s q0 (q0 + opF s q0 2)
      have h3 := (opF_le s q0 (by omega) 2).2
      rw [← h1.2.1]; omega
    split at h1
    · simp only [Sum.inl.injEq, Prod.mk.injEq] at h1
      rw [← h1.2.1]; simp
    split at h1
    · cases h1
    split at h1
    · simp only [Sum.inl.injEq, Prod.mk.injEq] at h1
      rw [← h1.2.1]; simp
    · simp only [Sum.inl.injEq, Prod.mk.injEq] at h1
      rw [← h1.2.1]; simp
theorem tokR_wd {s : ByteArray} {p k q p' : Nat} {t : List UInt8} {n : Int} (hp : p ≤ s.size) (h : tokR s p = .inl (k, t, n, q, p')) : t.length ≤ 4096 := by
  obtain ⟨h1, h2⟩ := tokR_at hp h
  exact tokAt_wd h1 h2
theorem allW_wd {s : ByteArray} {p : Nat} {l : List Tok} (hp : p ≤ s.size) (h : allW s p = .inl l) : ∀ x ∈ l, x.2.1.length ≤ 4096 := by
  obtain ⟨m, hm⟩ : ∃ m, s.size - p = m := ⟨_, rfl⟩
  induction m using Nat.strongRecOn generalizing p l with
  | _ m ih =>
    intro x hx
    rw [allW] at h
    split at h
    · cases h
    · next k t n q p' ht =>
      have hw := tokR_wd hp ht
      split at h
      · injection h with h
        subst h
        rw [List.mem_singleton] at hx
        subst hx
        exact hw
      split at h
      · next hh =>
        split at h
        · next l' hl' =>
          injection h with h
          subst h
          rcases List.mem_cons.1 hx with rfl | hx
          · exact hw
          · exact ih (s.size - p') (by omega) hh.2 hl' rfl x hx
        · cases h
      · injection h with h
        subst h
        cases hx
end Go.Proofs.YtmdkneollidkfaaGreatDoor.Fl

/-
  The document's Read: the walk.
-/
namespace Go.Proofs.YtmdkneollidkfaaGreatDoor.Fl
open Go.RowKit

def readT (s : ByteArray) : UnitR := if 65536 < s.size then .inr (0, 2) else readU s none 0
def RdPost (r : UnitR) (w : World) (e : Ending) (w' : World) : Prop :=
  Below w.heap.size w w' ∧ ((∃ at_ n, r = .inr (at_, n) ∧ e = .returned (.tuple #[.agg #[.slice none 0 0, .slice none 0 0], .int .i64 at_, .int .i64 n])) ∨
    ∃ (fs : List (Cls × Value)) (ss : List Src) (A1 : Option Addr) (c1 : Nat) (A2 : Option Addr) (c2 : Nat), r = .inl (fs.map (fun x => x.1), ss) ∧ e = .returned (.tuple #[.agg #[.slice A1 fs.length c1, .slice A2 ss.length c2], .int .i64 0, .int .i64 0]) ∧
      OwnY w' w.heap.size (.slice A1 fs.length c1) fs ∧ (∀ x ∈ fs, ∃ A c, x.2 = .slice A x.1.2.2.1.length c ∧ OwnS w' w.heap.size x.2 x.1.2.2.1) ∧ OwnX w' w.heap.size (.slice A2 ss.length c2) ss)
theorem cells2R {w : World} {g : Nat} {v0 v1 : Value} {T : TypeId} (h : w.heap[g]? = some (.cells #[v0, v1] T (0, 0))) :
    w.cell? ⟨g, 0, none⟩ = some v0 ∧ w.cell? ⟨g, 1, none⟩ = some v1 ∧ ∀ k, w.frozen? ⟨g, k, none⟩ = false :=
  ⟨cell_of_row _ _ _ _ _ _ h, cell_of_row _ _ _ _ _ _ h, fun k => frozen_of_row _ _ _ _ _ h⟩
theorem set2R {w : World} {C : Nat} {a0 a1 : Value} {T : TypeId} (h : w.heap[C]? = some (.cells #[a0, a1] T (0, 0))) (v0 v1 : Value) :
    ((w.setCell ⟨C, 0, none⟩ v0).setCell ⟨C, 1, none⟩ v1).heap[C]? = some (.cells #[v0, v1] T (0, 0)) :=
  heap_setCell_same _ C 1 _ _ v1 (heap_setCell_same w C 0 _ _ v0 h)
theorem RdW.no {w0 w : World} {R U O : Nat} {fs : List (Cls × Value)} {ss : List Src} {oc : List UInt8} {om : Bool} {A1 : Option Addr} {c1 : Nat} {A2 : Option Addr} {c2 : Nat} (h : RdW w0 w R U O fs ss oc om A1 c1 A2 c2) (v0 v1 : Value) :
    ((w.setCell ⟨R, 0, none⟩ v0).setCell ⟨R, 1, none⟩ v1).heap[R]? = some (.cells #[v0, v1] 45 (0, 0)) ∧ Below w0.heap.size w0 ((w.setCell ⟨R, 0, none⟩ v0).setCell ⟨R, 1, none⟩ v1) :=
  ⟨set2R h.res _ _, (h.bel.setCell (p := ⟨R, 0, none⟩) h.hR _).setCell (p := ⟨R, 1, none⟩) h.hR _⟩
/-- the unit is handed back -/
theorem RdW.yes {w0 w : World} {R U O : Nat} {fs : List (Cls × Value)} {ss : List Src} {oc : List UInt8} {om : Bool} {A1 : Option Addr} {c1 : Nat} {A2 : Option Addr} {c2 : Nat} (h : RdW w0 w R U O fs ss oc om A1 c1 A2 c2) (v0 v1 : Value) :
    OwnY ((w.setCell ⟨R, 0, none⟩ v0).setCell ⟨R, 1, none⟩ v1) w0.heap.size (.slice A1 fs.length c1) fs ∧ (∀ x ∈ fs, ∃ A c, x.2 = .slice A x.1.2.2.1.length c ∧ OwnS ((w.setCell ⟨R, 0, none⟩ v0).setCell ⟨R, 1, none⟩ v1) w0.heap.size x.2 x.1.2.2.1) ∧ OwnX ((w.setCell ⟨R, 0, none⟩ v0).setCell ⟨R, 1, none⟩ v1) w0.heap.size (.slice A2 ss.length c2) ss := by
  have nC := own_ne h.ownC h.res (by decide)
  have nX := own_ne h.ownX h.res (by decide)
  refine ⟨(h.ownC.cell nC _).cell nC _, ?_, (h.ownX.cell nX _).cell nX _⟩
  intro x hx
  obtain ⟨A, c, e, hf⟩ := h.ownF x hx
  have nF := own_ne hf h.res (by decide)
  exact ⟨A, c, e, (hf.cell nF _).cell nF _⟩
theorem RdW.make {w0 w1 w2 w3 : World} {R : Nat} (h1 : w1.heap[R]? = some (.cells #[.slice none 0 0, .slice none 0 0] 45 (0, 0))) (hb : Below w0.heap.size w0 w1) (hR : w0.heap.size ≤ R) (e2 : w2 = w1.alloc (.cells #[.slice none 0 0, .slice none 0 0] 45)) (e3 : w3 = w2.alloc (.cells #[.string ⟨#[]⟩, .bool false, .string ⟨#[]⟩, .int .i64 0] 76)) :
    RdW w0 w3 R w1.heap.size w2.heap.size [] [] [] false none 0 none 0 := by
  have b2 : Below w1.heap.size w1 w2 := by rw [e2]; exact (Below.refl _ _).alloc (Nat.le_refl _) _
  have b3 : Below w2.heap.size w2 w3 := by rw [e3]; exact (Below.refl _ _).alloc (Nat.le_refl _) _
  have u2 : w2.heap[w1.heap.size]? = some (.cells #[.slice none 0 0, .slice none 0 0] 45 (0, 0)) := by rw [e2]; exact heap_alloc_new _ _
  have o3 : w3.heap[w2.heap.size]? = some (.cells #[.string ⟨#[]⟩, .bool false, .string ⟨#[]⟩, .int .i64 0] 76 (0, 0)) := by rw [e3]; exact heap_alloc_new _ _
  have l1 := lt_of_blk h1
  refine ⟨(b3.block _ (Nat.lt_of_lt_of_le l1 b2.size)).trans ((b2.block _ l1).trans h1), (b3.block _ (lt_of_blk u2)).trans u2, o3, (hb.trans (b2.mono hb.size)).trans (b3.mono (Nat.le_trans hb.size b2.size)), hR, hb.size, Nat.le_trans hb.size b2.size, by omega, World.ownsRow_nil _ _ _ _, fun x hx => (by cases hx), World.ownsRow_nil _ _ _ _, by simp [Value.ownBlock]⟩
def stepU (s : ByteArray) (a : Int) (b : Nat) : List Tok ⊕ (Int × Nat) → UnitR
  | .inr e => .inr (a, e.1)
  | .inl l => match clsR l a with
    | some c => preU [c] [] (readU s none b)
    | none => match headL l with
      | some h => readU s (some h) b
      | none => .inr (a, 3)
theorem ClsPost.two {l : List Tok} {a : Int} {w w' : World} {e : Ending} (h : ClsPost l a w e w') : ∃ x0 x1 A n k z ok, e = .returned (.tuple #[.agg #[.string x0, .string x1, .slice A n k, .int .i64 z], .bool ok]) ∧ ((ok = false ∧ clsR l a = none) ∨ (ok = true ∧ ∃ c : Cls, clsR l a = some c ∧ x0 = mkB c.1 ∧ x1 = mkB c.2.1 ∧ n = c.2.2.1.length ∧ OwnS w' w.heap.size (.slice A n k) c.2.2.1 ∧ z = c.2.2.2)) := by
  rcases h.2 with ⟨h1, rfl⟩ | ⟨nm, sp, ft, A, c, h1, rfl, h2⟩
  · exact ⟨_, _, _, _, _, _, _, rfl, .inl ⟨rfl, by rw [clsR, h1]⟩⟩
  · refine ⟨_, _, _, _, _, _, _, rfl, ?_⟩
    cases hk : clsOk nm ft
    · exact .inl ⟨rfl, by rw [clsR, h1]; simp [hk]⟩
    · exact .inr ⟨rfl, (nm, supN sp, wordsA [] ft, a), by rw [clsR, h1]; simp [hk], rfl, rfl, rfl, h2, rfl⟩
theorem headV_two (h : Option (List UInt8 × Bool)) : ∃ y0 ym hk, headV h = .tuple #[.agg #[.string y0, .bool ym, .string ⟨#[]⟩, .int .i64 0], .bool hk] ∧ ((hk = false ∧ h = none) ∨ (hk = true ∧ ∃ nm, h = some (nm, ym) ∧ y0 = mkB nm)) := by
  cases h with
  | none => exact ⟨_, _, _, rfl, .inl ⟨rfl, rfl⟩⟩
  | some x => exact ⟨_, _, _, rfl, .inr ⟨rfl, x.1, rfl, rfl⟩⟩
end Go.Proofs.YtmdkneollidkfaaGreatDoor.Fl
