/-
  Two files, one behind the other: what the whole says; what Told made of each, one behind the other.
-/
import Derived.Test.YtponopcnndkalaaGreatDoorClC
namespace Go.Proofs.YtponopcnndkalaaGreatDoor.Fl
open Go.RowKit Go.Shelf

theorem while_app {f : UInt8 → Bool} {l m : List UInt8} (h : l.dropWhile f = []) : (l ++ m).takeWhile f = l ++ m.takeWhile f := by
  induction l with
  | nil => rfl
  | cons x xs ih =>
    rw [List.dropWhile_cons] at h
    by_cases hx : f x = true
    · rw [if_pos hx] at h
      rw [List.cons_append, List.takeWhile_cons, if_pos hx, ih h]; rfl
    · rw [if_neg hx] at h; cases h
theorem readT_join {a b S : ByteArray} {cs : List Cls} {ss : List Src} (sp : List UInt8) (hsp : sp = [] ∨ sp = [32]) (hS : sb S = sb a ++ (sp ++ sb b)) (hlast : (sb a).getLast? = some 33 → (sp ++ sb b).head? ≠ some 33) (hz : S.size ≤ 65536) (h : readT a = .inl (cs, ss)) :
    readT S = preU cs ss (shU (a.size + sp.length) (readT b)) := by
  have hSz : S.size = a.size + sp.length + b.size := by rw [← sb_len, hS, List.length_append, List.length_append, sb_len, sb_len]; omega
  unfold readT at h ⊢
  rw [if_neg (by omega)] at h
  rw [if_neg (by omega), if_neg (by omega)]
  have hd : (sb S).drop (a.size + sp.length) = sb b := by rw [hS, ← List.append_assoc]; exact List.drop_left' (by rw [List.length_append, sb_len])
  have hsw : sp.dropWhile (fun c : UInt8 => blankN c.toNat) = [] := by rcases hsp with rfl | rfl <;> rfl
  have hbl : ∀ p, p ≤ a.size → ((sb a).drop p).dropWhile isBl = [] → runE blankN S p = runE blankN S (a.size + sp.length) := by
    intro p hp hq
    have e1 : (sb S).drop p = (sb a).drop p ++ (sp ++ sb b) := by rw [hS]; exact List.drop_append_of_le_length (by rw [sb_len]; exact hp)
    unfold runE
    rw [e1, hd, while_app (f := fun c : UInt8 => blankN c.toNat) hq, List.length_append, while_app hsw, List.length_append, List.length_drop, sb_len]
    omega
  have h1 := readU_first (N := a.size + sp.length) hS hlast (by omega) hbl (a.size + 1) 0 none cs ss (by omega) (by omega) h
  have h2 := readU_second hd hSz (b.size + 1) 0 none (by omega)
  rw [Nat.add_zero] at h2
  rw [h1, h2]

theorem unitE_pre (cs : List Cls) (ss : List Src) (N : Nat) (r : UnitR) : unitE (preU cs ss (shU N r)) = unitE r := by rcases r with ⟨_, _⟩ | ⟨_, _⟩ <;> rfl
theorem unitP_pre (cs : List Cls) (ss : List Src) (N : Nat) (r : UnitR) (h : unitE r ≠ 0) : unitP (preU cs ss (shU N r)) = (N : Int) + unitP r := by
  rcases r with ⟨_, _⟩ | ⟨_, _⟩
  · exact absurd rfl h
  · simp only [preU, shU, unitP]; omega
theorem unit_inl (r : UnitR) (h : unitE r = 0) (hne : ∀ x, r ≠ .inr (x, 0)) : r = .inl (unitC r, unitS r) := by
  rcases r with ⟨a, b⟩ | ⟨a, b⟩
  · rfl
  · exact absurd (by simp only [unitE] at h; rw [h]) (hne a)

theorem allW_err0 {s : ByteArray} (n : Nat) : ∀ (p : Nat) (e : Int × Nat), s.size - p ≤ n → allW s p = .inr e → e.1 ≠ 0 := by
  induction n with
  | zero =>
    intro p e hn h
    rw [allW] at h
    split at h
    · next e' he => injection h with h; subst h; exact tokR_err (q := e'.2) he
    · split at h
      · cases h
      · split at h
        · omega
        · cases h
  | succ n ih =>
    intro p e hn h
    rw [allW] at h
    split at h
    · next e' he => injection h with h; subst h; exact tokR_err (q := e'.2) he
    · next k t m q p' he =>
      split at h
      · cases h
      · split at h
        · next hp =>
          split at h
          · cases h
          · next e' he2 => injection h with h; subst h; exact ih p' e' (by omega) he2
        · cases h
theorem preU_inr {cs : List Cls} {ss : List Src} {r : UnitR} {x : Int × Int} (h : preU cs ss r = .inr x) : r = .inr x := by
  rcases r with ⟨_, _⟩ | y
  · cases h
  · injection h with h; rw [h]
theorem readU_ne (s : ByteArray) (n : Nat) : ∀ (p : Nat) (m : Option (List UInt8 × Bool)) (x : Int), s.size + 1 - p ≤ n → readU s m p ≠ .inr (x, 0) := by
  have he : ∀ (m : Option (List UInt8 × Bool)) (x : Int), endU s m ≠ .inr (x, 0) := by
    intro m x h
    unfold endU at h
    split at h
    · injection h with h; injection h with _ h; cases h
    · cases h
  induction n with
  | zero => intro p m x hn; rw [readU_out (by omega)]; exact he m x
  | succ n ih =>
    intro p m x hn h
    by_cases hp : p ≤ s.size
    case neg => rw [readU_out hp] at h; exact he m x h
    obtain ⟨⟨t, a, b, e⟩, hc⟩ : ∃ x, chunkR s p = x := ⟨_, rfl⟩
    have hge := chunk_le hp
    rw [hc] at hge
    dsimp only at hge
    rw [readU_in hp hc] at h
    split at h
    · split at h
      · exact he m x h
      · injection h with h; injection h with _ h; cases h
    · split at h
      · exact ih _ _ _ (by omega) h
      · cases m with
        | some hh => dsimp only at h; exact ih _ _ _ (by omega) (preU_inr h)
        | none =>
          dsimp only at h
          cases hl : allW (mkB t) 0 with
          | inr e =>
            rw [hl] at h
            injection h with h; injection h with _ h
            exact allW_err0 _ 0 e (Nat.le_refl _) hl h
          | inl l =>
            rw [hl] at h
            dsimp only at h
            cases hcl : clsR l (a : Int) with
            | some c => rw [hcl] at h; exact ih _ _ _ (by omega) (preU_inr h)
            | none =>
              rw [hcl] at h
              dsimp only at h
              cases hh : headL l with
              | some v => rw [hh] at h; exact ih _ _ _ (by omega) h
              | none => rw [hh] at h; injection h with h; injection h with _ h; cases h
theorem readT_ok {s : ByteArray} (h : unitE (readT s) = 0) : readT s = .inl (unitC (readT s), unitS (readT s)) := by
  refine unit_inl _ h fun x hx => ?_
  unfold readT at hx
  split at hx
  · injection hx with h; injection h with _ h; cases h
  · exact readU_ne s _ _ _ _ (Nat.le_refl _) hx

theorem readU_at (s : ByteArray) (n : Nat) : ∀ (p : Nat) (m : Option (List UInt8 × Bool)) (x y : Int), s.size + 1 - p ≤ n → readU s m p = .inr (x, y) → 0 ≤ x ∧ x ≤ (s.size : Int) := by
  have he : ∀ (m : Option (List UInt8 × Bool)) (x y : Int), endU s m = .inr (x, y) → 0 ≤ x ∧ x ≤ (s.size : Int) := by
    intro m x y h
    unfold endU at h
    split at h
    · injection h with h; injection h with h _; omega
    · cases h
  induction n with
  | zero => intro p m x y hn h; rw [readU_out (by omega)] at h; exact he m x y h
  | succ n ih =>
    intro p m x y hn h
    by_cases hp : p ≤ s.size
    case neg => rw [readU_out hp] at h; exact he m x y h
    obtain ⟨⟨t, a, b, e⟩, hc⟩ : ∃ x, chunkR s p = x := ⟨_, rfl⟩
    have hge := chunk_le hp
    rw [hc] at hge
    dsimp only at hge
    rw [readU_in hp hc] at h
    split at h
    · split at h
      · exact he m x y h
      · injection h with h; injection h with h _; omega
    · split at h
      · exact ih _ _ _ _ (by omega) h
      · cases m with
        | some hh => dsimp only at h; exact ih _ _ _ _ (by omega) (preU_inr h)
        | none =>
          dsimp only at h
          cases hl : allW (mkB t) 0 with
          | inr e =>
            rw [hl] at h
            injection h with h; injection h with h _; omega
          | inl l =>
            rw [hl] at h
            dsimp only at h
            cases hcl : clsR l (a : Int) with
            | some c => rw [hcl] at h; exact ih _ _ _ _ (by omega) (preU_inr h)
            | none =>
              rw [hcl] at h
              dsimp only at h
              cases hh : headL l with
              | some v => rw [hh] at h; exact ih _ _ _ _ (by omega) h
              | none => rw [hh] at h; injection h with h; injection h with h _; omega
theorem readT_at (s : ByteArray) : 0 ≤ unitP (readT s) ∧ unitP (readT s) ≤ (s.size : Int) := by
  obtain ⟨r, hr⟩ : ∃ r, readT s = r := ⟨_, rfl⟩
  rw [hr]
  rcases r with ⟨_, _⟩ | ⟨x, y⟩
  · exact ⟨Int.le_refl 0, Int.natCast_nonneg _⟩
  · unfold readT at hr
    split at hr
    · injection hr with h; injection h with h _; rw [← h]; exact ⟨Int.le_refl 0, Int.natCast_nonneg _⟩
    · exact readU_at s _ _ _ _ _ (Nat.le_refl _) hr

/-- the classes that Told made, in rows of the call's own -/
structure JcW (w0 w : World) (v : Value) (fs : List (Cls × Value)) : Prop where
  own : OwnY w w0.heap.size v fs
  inn : ∀ x ∈ fs, ∃ A c, x.2 = .slice A x.1.2.2.1.length c ∧ OwnS w w0.heap.size x.2 x.1.2.2.1
section
variable {w0 w w' : World} {v v' : Value} {fs gs ts : List (Cls × Value)}
theorem JcW.below (h : JcW w0 w v fs) (hb : Below w.heap.size w w') : JcW w0 w' v fs :=
  ⟨h.own.below hb, fun x hx => (h.inn x hx).imp fun A ⟨c, e, ho⟩ => ⟨c, e, ho.below hb⟩⟩
theorem JcW.one (h : JcW w0 w v fs) : ∀ u ∈ cc_ fs, u.oneCell' = true := by
  intro u hu
  unfold cc_ at hu
  rw [List.mem_flatMap] at hu
  obtain ⟨x, hx, hu⟩ := hu
  obtain ⟨A, c, e, _⟩ := h.inn x hx
  simp only [List.mem_cons, List.not_mem_nil, or_false] at hu
  rcases hu with rfl | rfl | rfl | rfl
  · rfl
  · rfl
  · rw [e]; rfl
  · rfl
theorem JcW.app (h : JcW w0 w v fs) (h2 : JcW w0 w v' gs) (hts : ts = fs ++ gs) {v3 : Value} (ho : OwnY w' w0.heap.size v3 ts)
    (hk : ∀ k, k < w.heap.size → some k ≠ v.ownBlock → w'.heap[k]? = w.heap[k]?) : JcW w0 w' v3 ts := by
  refine ⟨ho, fun x hx => ?_⟩
  have hx' : ∃ A c, x.2 = .slice A x.1.2.2.1.length c ∧ OwnS w w0.heap.size x.2 x.1.2.2.1 := by
    rw [hts, List.mem_append] at hx
    exact hx.elim (h.inn x) (h2.inn x)
  obtain ⟨A, c, e, hf⟩ := hx'
  exact ⟨A, c, e, hf.keep fun j hj => hk j (World.ownsRow.lt hf _ hj).2 (own_far hf h.own (by decide) hj)⟩
theorem JcW.keepX {xs : List Src} {u : Value} (h : JcW w0 w v fs) (hx : OwnX w w0.heap.size u xs) (hk : ∀ k, k < w.heap.size → some k ≠ u.ownBlock → w'.heap[k]? = w.heap[k]?) : JcW w0 w' v fs :=
  ⟨h.own.keep fun j hj => hk j (World.ownsRow.lt h.own _ hj).2 (own_far h.own hx (by decide) hj), fun x hx' => (h.inn x hx').imp fun A ⟨c, e, hf⟩ => ⟨c, e, hf.keep fun j hj => hk j (World.ownsRow.lt hf _ hj).2 (own_far hf hx (by decide) hj)⟩⟩
theorem JcW.cell (h : JcW w0 w v fs) {G : Nat} {cs : Array Value} {fr : Nat × Nat} (hq : w.heap[G]? = some (.cells cs 33 fr)) (k : Nat) (x : Value) : JcW w0 (w.setCell ⟨G, k, none⟩ x) v fs :=
  ⟨h.own.cell (own_ne h.own hq (by decide)) x, fun y hy => (h.inn y hy).imp fun A ⟨c, e, hf⟩ => ⟨c, e, hf.cell (own_ne hf hq (by decide)) x⟩⟩
end
theorem JcW.told {w0 w' w : World} {v : Value} {fs : List (Cls × Value)} (hs : w0.heap.size ≤ w'.heap.size) (hC : OwnY w w'.heap.size v fs) (hF : ∀ x ∈ fs, ∃ A c, x.2 = .slice A x.1.2.2.1.length c ∧ OwnS w w'.heap.size x.2 x.1.2.2.1) : JcW w0 w v fs :=
  ⟨hC.wide hs, fun x hx => (hF x hx).imp fun A ⟨c, e, ho⟩ => ⟨c, e, ho.wide hs⟩⟩
def shC (N : Nat) (c : Cls) : Cls := (c.1, c.2.1, c.2.2.1, c.2.2.2 + (N : Int))
def shS (N : Nat) (c : Src) : Src := (c.1, c.2.1, c.2.2.1, c.2.2.2 + (N : Int))
theorem unit_join {rt : UnitR} (h : unitE rt = 0) (h2 : rt = .inl (unitC rt, unitS rt)) (cs : List Cls) (ss : List Src) (N : Nat) :
    unitC (preU cs ss (shU N rt)) = cs ++ (unitC rt).map (shC N) ∧ unitS (preU cs ss (shU N rt)) = ss ++ (unitS rt).map (shS N) := by
  rcases rt with ⟨a, b⟩ | ⟨a, b⟩
  · exact ⟨rfl, rfl⟩
  · cases h2
theorem joins_nA {k2 ts : List (Cls × Value)} {cs ds : List Cls} {N : Nat} (h1 : k2.map (fun x => x.1) = cs ++ ds.map (shC N)) (h2 : ts.map (fun x => x.1) = cs ++ ds) : k2.map nA = ts.map nA := by
  have e1 := congrArg (List.map (fun c : Cls => (c.1, c.2.1, c.2.2.1))) h1
  have e2 := congrArg (List.map (fun c : Cls => (c.1, c.2.1, c.2.2.1))) h2
  rw [List.map_map] at e1 e2
  have e3 : List.map (fun c : Cls => (c.1, c.2.1, c.2.2.1)) (cs ++ ds.map (shC N)) = List.map (fun c : Cls => (c.1, c.2.1, c.2.2.1)) (cs ++ ds) := by
    rw [List.map_append, List.map_append, List.map_map]; rfl
  exact e1.trans (e3.trans e2.symm)
theorem joins_nS {ss xs : List Src} {N : Nat} : (ss ++ xs.map (shS N)).map nS = (ss ++ xs).map nS := by
  rw [List.map_append, List.map_append, List.map_map]; rfl
theorem sc__oneC (xs : List Src) : ∀ u ∈ sc_ xs, u.oneCell' = true := by
  intro u hu
  unfold sc_ at hu
  rw [List.mem_flatMap] at hu
  obtain ⟨x, hx, hu⟩ := hu
  simp only [List.mem_cons, List.not_mem_nil, or_false] at hu
  rcases hu with rfl | rfl | rfl | rfl <;> rfl
theorem step_append_x {w : World} {base c : Nat} {A : Option Addr} {xs news : List Src} {v : Value} {ops : Array Oper} {o : Oper} {a : Act} {K : Act → World → Prop} {Q : Exit → Act → World → Prop} {E : Prop} (hg : o.guard = none) (s x : Operand) (ho : o.op = .call { callee := .builtin .append, args := #[s, x], argTypes := #[31, 31] })
    (hs : a.eval s = v) (hx : a.eval x = .slice A news.length c) (hown : OwnX w base v xs) (hr : Rd w w.heap.size A (sc_ news)) (hA : A = none → news.length = 0) (hone : ∀ v ∈ sc_ news, v.oneCell' = true) (hl : xs.length ≤ 100000000) (hl2 : news.length ≤ 100000000) (hb : base ≤ w.heap.size)
    (h : ∀ A' ts c' w', Hid (ts = xs ++ news) → Hid (OwnX w' base (.slice A' ts.length c') ts) → Hid (Below base w w' ∧ (∀ k, k < w.heap.size → some k ≠ v.ownBlock → w'.heap[k]? = w.heap[k]?) ∧ ((Value.slice A' ts.length c').ownBlock = v.ownBlock ∨ (Value.slice A' ts.length c').ownBlock = some w.heap.size)) → K (a.put o.dst (.slice A' ts.length c')) w') :
    if Region.wanted o (yielded ops a.tmps) = true then Oper.wp Tryz.prog o a w K Q else E := by
  obtain ⟨i0, hi, hz0, hz1, hz2⟩ := info_parts srcinfo
  refine step_append_rd (base := base) (size := 4) (bytes := 48) (n := xs.length) (m := news.length) (c := c) (v := v) (xs := sc_ xs) (news := sc_ news) hg s x ho Tryz.underlying31 hi hz0 hz1 hz2 rfl (by decide) hs hx hown hr (sc__len _) hA hone (by unfold maxLen; omega) (by omega) hb ?_
  intro v' w' happ
  obtain ⟨A', c', rfl, _, _⟩ := happ.slice
  have e : xs.length + news.length = (xs ++ news).length := by simp
  have ho := happ.own
  have hat := happ.at_
  rw [e, show sc_ xs ++ sc_ news = sc_ (xs ++ news) from (sc__app _ _).symm] at ho
  rw [e] at hat ⊢
  exact h A' (xs ++ news) c' w' (Lib.hid rfl) (Lib.hid ho) (Lib.hid ⟨(Below.refl _ _).grown happ.grown hb (fun j hj => (World.ownsRow.lt hown j hj).1), happ.grown.block, hat⟩)
end Go.Proofs.YtponopcnndkalaaGreatDoor.Fl
