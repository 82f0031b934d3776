/-
  The lexer: a token goes on.
-/
import Derived.Test.YtmdkneollidkfaaGreatDoorLxX
namespace Go.Proofs.YtmdkneollidkfaaGreatDoor.Fl
open Go.RowKit

theorem skipA_le : ∀ (l : List UInt8) (m : Option Nat) (p q : Nat), skipA m p l = .inl q → p ≤ q
  | [], m, p, q, h => by
    unfold skipA at h
    split at h
    · injection h with h; omega
    · cases h
  | c :: l, m, p, q, h => by
    unfold skipA at h
    split at h
    · split at h
      · have := skipA_le l _ _ _ h; omega
      · split at h
        · have := skipA_le l _ _ _ h; omega
        · injection h with h; omega
    · split at h
      · have := skipA_le l _ _ _ h; omega
      · have := skipA_le l _ _ _ h; omega
theorem quoA_lt : ∀ (n : Nat) (l : List UInt8) (p q : Nat), l.length ≤ n → quoA p l = some q → p < q
  | _, [], p, q, _, h => by cases h
  | _, [c], p, q, _, h => by
    unfold quoA at h
    split at h
    · injection h with h; omega
    · cases h
  | 0, _ :: _ :: _, _, _, hn, _ => by simp at hn
  | n + 1, c :: d :: l, p, q, hn, h => by
    unfold quoA at h
    simp only [List.length_cons] at hn
    split at h
    · split at h
      · have := quoA_lt n l _ _ (by omega) h; omega
      · injection h with h; omega
    · have := quoA_lt n (d :: l) _ _ (by simp only [List.length_cons]; omega) h; omega
theorem namedR_kind (s : ByteArray) (p : Nat) : (namedR s p).1 ≠ 0 := by
  unfold namedR
  split <;> simp
theorem ofKw_inl {q : Nat} {r : (Nat × List UInt8 × Nat) ⊕ Int} {k : Nat} {t : List UInt8} {n : Int} {q0 p : Nat} (h : ofKw q r = .inl (k, t, n, q0, p)) : r = .inl (k, t, p) ∧ n = 0 ∧ q0 = q := by
  cases r with
  | inl x =>
    obtain ⟨a, b, c⟩ := x
    simp only [ofKw, Sum.inl.injEq, Prod.mk.injEq] at h
    obtain ⟨rfl, rfl, rfl, rfl, rfl⟩ := h
    exact ⟨rfl, rfl, rfl⟩
  | inr x => cases h
theorem hashR_lt {s : ByteArray} {q k p : Nat} {t : List UInt8} (hq : q < s.size) (h : hashR s q = .inl (k, t, p)) : k ≠ 0 ∧ q < p := by
  unfold hashR at h
  split at h
  · simp only [Sum.inl.injEq, Prod.mk.injEq] at h
    obtain ⟨rfl, _, rfl⟩ := h
    omega
  split at h
  · split at h
    · cases h
    · next x hx =>
      split at h
      · cases h
      · simp only [Sum.inl.injEq, Prod.mk.injEq] at h
        obtain ⟨rfl, _, rfl⟩ := h
        have := quoA_lt _ _ _ _ (Nat.le_refl _) hx
        omega
  split at h
  · split at h
    · cases h
    · simp only [Sum.inl.injEq, Prod.mk.injEq] at h
      obtain ⟨rfl, _, rfl⟩ := h
      have := joinR_le (s := s) (p := q + 1) hq
      omega
  split at h
  · cases h
  · simp only [Sum.inl.injEq, Prod.mk.injEq] at h
    obtain ⟨rfl, _, rfl⟩ := h
    omega
theorem markR_lt {s : ByteArray} {q k p : Nat} {t : List UInt8} (h : markR s q = .inl (k, t, p)) : k ≠ 0 ∧ q < p := by
  unfold markR at h
  split at h
  · next h0 =>
    simp only [Sum.inl.injEq, Prod.mk.injEq] at h
    obtain ⟨rfl, _, rfl⟩ := h
    omega
  split at h
  · simp only [Sum.inl.injEq, Prod.mk.injEq] at h
    obtain ⟨rfl, _, rfl⟩ := h
    omega
  split at h
  · cases h
  split at h
  · simp only [Sum.inl.injEq, Prod.mk.injEq] at h
    obtain ⟨rfl, _, rfl⟩ := h
    omega
  · simp only [Sum.inl.injEq, Prod.mk.injEq] at h
    obtain ⟨rfl, _, rfl⟩ := h
    omega
theorem digit_run {s : ByteArray} {q : Nat} (h : digitN (lookB s q) = true) : q < runE digitN s q := by
  have hp : q < s.size := by
    rcases Nat.lt_or_ge q s.size with h1 | h1
    · exact h1
    · unfold lookB at h
      rw [dif_neg (by omega)] at h
      exact absurd h (by decide)
  have h2 : digitN s[q].toNat = true := by unfold lookB at h; rwa [dif_pos hp] at h
  rw [runE_step hp h2]
  have := (runE_le (f := digitN) (s := s) (p := q + 1) hp).1
  omega
theorem tokAt_lt {s : ByteArray} {q k q0 p : Nat} {t : List UInt8} {n : Int} (hq : q ≤ s.size) (h : tokAt s q = .inl (k, t, n, q0, p)) : q0 = q ∧ ((k = 0 ∧ q = s.size ∧ p = q) ∨ (k ≠ 0 ∧ q < p)) := by
  unfold tokAt at h
  split at h
  · next he =>
    simp only [Sum.inl.injEq, Prod.mk.injEq] at h
    obtain ⟨rfl, _, _, rfl, rfl⟩ := h
    exact ⟨rfl, .inl ⟨rfl, he, rfl⟩⟩
  next he =>
  split at h
  · next hl =>
    split at h
    · cases h
    · simp only [Sum.inl.injEq, Prod.mk.injEq] at h
      obtain ⟨rfl, _, _, rfl, rfl⟩ := h
      exact ⟨rfl, .inr ⟨namedR_kind _ _, namedR_lt hq hl⟩⟩
  split at h
  · next hd =>
    split at h
    · simp only [Sum.inl.injEq, Prod.mk.injEq] at h
      obtain ⟨rfl, _, _, rfl, rfl⟩ := h
      exact ⟨rfl, .inr ⟨by decide, digit_run hd⟩⟩
    · cases h
  split at h
  · split at h
    · cases h
    · simp only [Sum.inl.injEq, Prod.mk.injEq] at h
      obtain ⟨rfl, _, _, rfl, rfl⟩ := h
      exact ⟨rfl, .inr ⟨by decide, by omega⟩⟩
  split at h
  · split at h
    · cases h
    · next x hx =>
      split at h
      · cases h
      · simp only [Sum.inl.injEq, Prod.mk.injEq] at h
        obtain ⟨rfl, _, _, rfl, rfl⟩ := h
        have := quoA_lt _ _ _ _ (Nat.le_refl _) hx
        exact ⟨rfl, .inr ⟨by decide, by omega⟩⟩
  split at h
  · obtain ⟨h1, _, rfl⟩ := ofKw_inl h
    exact ⟨rfl, .inr (hashR_lt (by omega) h1)⟩
  · obtain ⟨h1, _, rfl⟩ := ofKw_inl h
    exact ⟨rfl, .inr (markR_lt h1)⟩
theorem tokR_lt {s : ByteArray} {p k q p' : Nat} {t : List UInt8} {n : Int} (hq : ∀ q, skipA none p ((sb s).drop p) = .inl q → q ≤ s.size) (h : tokR s p = .inl (k, t, n, q, p')) : p ≤ q ∧ ((k = 0 ∧ q = s.size ∧ p' = q) ∨ (k ≠ 0 ∧ q < p')) := by
  unfold tokR at h
  split at h
  · next x hx =>
    obtain ⟨rfl, h2⟩ := tokAt_lt (hq _ hx) h
    exact ⟨skipA_le _ _ _ _ hx, h2⟩
  · cases h
theorem skipA_end : ∀ (l : List UInt8) (m : Option Nat) (p q : Nat), skipA m p l = .inl q → q ≤ p + l.length
  | [], m, p, q, h => by
    unfold skipA at h
    split at h
    · injection h with h; simp; omega
    · cases h
  | c :: l, m, p, q, h => by
    simp only [List.length_cons]
    unfold skipA at h
    split at h
    · split at h
      · have := skipA_end l _ _ _ h; omega
      · split at h
        · have := skipA_end l _ _ _ h; omega
        · injection h with h; omega
    · split at h
      · have := skipA_end l _ _ _ h; omega
      · have := skipA_end l _ _ _ h; omega
theorem tokR_go {s : ByteArray} {p k q p' : Nat} {t : List UInt8} {n : Int} (hp : p ≤ s.size) (h : tokR s p = .inl (k, t, n, q, p')) : p ≤ q ∧ ((k = 0 ∧ q = s.size ∧ p' = q) ∨ (k ≠ 0 ∧ q < p')) :=
  tokR_lt (fun q hq => by
    have := skipA_end _ _ _ _ hq
    rw [List.length_drop, sb_len] at this
    omega) h
end Go.Proofs.YtmdkneollidkfaaGreatDoor.Fl

/-
  The lexer: tokens in memory; All.
-/
namespace Go.Proofs.YtmdkneollidkfaaGreatDoor.Fl
open Go.RowKit

/-- a token: kind, word, number, place -/
abbrev Tok := Nat × List UInt8 × Int × Nat
def tcells (x : Tok) : List Value := [.int .i64 (x.1 : Int), .string ⟨x.2.1.toArray⟩, .int .i64 x.2.2.1, .int .i64 (x.2.2.2 : Int)]
def ct : List Tok → List Value
  | [] => []
  | x :: l => tcells x ++ ct l
theorem ct_len : ∀ l : List Tok, (ct l).length = l.length * 4
  | [] => rfl
  | x :: l => by rw [ct, List.length_append, ct_len l, List.length_cons]; show 4 + _ = _; omega
theorem ct_append : ∀ l m : List Tok, ct (l ++ m) = ct l ++ ct m
  | [], _ => rfl
  | x :: l, m => by rw [List.cons_append, ct, ct, ct_append l m, List.append_assoc]
theorem ct_one : ∀ (l : List Tok), ∀ v ∈ ct l, v.oneCell' = true
  | [], v, h => by cases h
  | x :: l, v, h => by
    rw [ct, List.mem_append] at h
    rcases h with h | h
    · simp only [tcells, List.mem_cons, List.not_mem_nil, or_false] at h
      rcases h with rfl | rfl | rfl | rfl <;> rfl
    · exact ct_one l v h
theorem ct_at : ∀ (l : List Tok) (k : Nat) (h : k < l.length), (ct l)[4 * k]? = some (.int .i64 (l[k].1 : Int)) ∧ (ct l)[4 * k + 1]? = some (.string ⟨l[k].2.1.toArray⟩) ∧ (ct l)[4 * k + 2]? = some (.int .i64 l[k].2.2.1) ∧ (ct l)[4 * k + 3]? = some (.int .i64 (l[k].2.2.2 : Int))
  | x :: l, 0, _ => ⟨rfl, rfl, rfl, rfl⟩
  | x :: l, k + 1, h => by
    have ih := ct_at l k (by simpa using h)
    have e : ∀ j, (ct (x :: l))[4 * (k + 1) + j]? = (ct l)[4 * k + j]? := fun j => by
      rw [ct, List.getElem?_append_right (show (tcells x).length ≤ _ by show 4 ≤ _; omega)]
      show (ct l)[4 * (k + 1) + j - 4]? = _
      rw [show 4 * (k + 1) + j - 4 = 4 * k + j by omega]
    have e0 := e 0
    rw [Nat.add_zero, Nat.add_zero] at e0
    rw [e0, e 1, e 2, e 3]
    exact ih
theorem tokinfo : (Tryz.prog.info? 143).map (fun i => (i.zero, i.size, i.bytes)) = some (some (.agg #[.int .i64 0, .string ⟨#[]⟩, .int .i64 0, .int .i64 0]), 4, 40) := by kernel_rfl
def OwnK (w : World) (base : Nat) (v : Value) (l : List Tok) : Prop := w.ownsRow base 143 4 v l.length (ct l)
theorem OwnK.below {w w' : World} {base : Nat} {v : Value} {xs : List Tok} (h : OwnK w base v xs) (hb : Below w.heap.size w w') : OwnK w' base v xs :=
  ⟨h.1, h.2.elim .inl fun ⟨g, cap, cur, hv, hbg, hg, r⟩ => .inr ⟨g, cap, cur, hv, hbg, (hb.block g (lt_of_blk hg)).trans hg, r⟩⟩
/-- append of tokens onto a row of the call's own -/
theorem wpList_append_k {w : World} {base c : Nat} {A : Option Addr} {xs news : List Tok} {v : Value} {ops : Array Oper} {rest : List Oper} {o : Oper} {a : Act} {Q : Exit → Act → World → Prop} (hg : o.guard = none) (s x : Operand) (ho : o.op = .call { callee := .builtin .append, args := #[s, x], argTypes := #[138, 138] })
    (hs : a.eval s = v) (hx : a.eval x = .slice A news.length c) (hown : OwnK w base v xs) (hr : Rd w w.heap.size A (ct news)) (hA : A = none → news.length = 0) (hl : xs.length ≤ 100000000) (hl2 : news.length ≤ 100000000) (hb : base ≤ w.heap.size)
    (h : ∀ A' ts c' w', Hid (ts = xs ++ news) → Hid (OwnK w' base (.slice A' ts.length c') ts) → Hid (Below base w w' ∧ ∀ k, k < w.heap.size → some k ≠ v.ownBlock → w'.heap[k]? = w.heap[k]?) → wpList Tryz.prog ops Q rest (a.put o.dst (.slice A' ts.length c')) w') : wpList Tryz.prog ops Q (o :: rest) a w := by
  obtain ⟨i0, hi, hz0, hz1, hz2⟩ := info_parts tokinfo
  refine wpList_append_rd (base := base) (size := 4) (bytes := 40) (n := xs.length) (m := news.length) (c := c) (v := v) (xs := ct xs) (news := ct news) hg s x ho Tryz.underlying138 hi hz0 hz1 hz2 rfl (by decide) hs hx hown hr (ct_len _) hA (ct_one news) (by unfold maxLen; omega) (by omega) hb ?_
  intro v' w' happ
  obtain ⟨A', c', rfl, _, _⟩ := happ.slice
  have e : xs.length + news.length = (xs ++ news).length := by simp
  have ho := happ.own
  rw [e, show ct xs ++ ct news = ct (xs ++ news) from (ct_append _ _).symm] at ho
  rw [e]
  exact h A' (xs ++ news) c' w' (Lib.hid rfl) (Lib.hid ho) (Lib.hid ⟨(Below.refl _ _).grown happ.grown hb (fun j hj => (World.ownsRow.lt hown j hj).1), happ.grown.block⟩)
theorem ownK_rd {w : World} {base n c : Nat} {A : Option Addr} {xs : List Tok} (h : OwnK w base (.slice A n c) xs) : Rd w w.heap.size A (ct xs) := by
  rcases h.2 with ⟨_, e2⟩ | ⟨g, cap, cur, e1, hb, hg, _, _, _, ht⟩
  · rw [List.eq_nil_of_length_eq_zero e2]; exact .inl rfl
  · injection e1 with e1 _ _
    subst e1
    refine .inr ⟨g, 0, rfl, lt_of_blk hg, fun j v hj => ?_⟩
    have hjl : j < xs.length * 4 := by
      rcases Nat.lt_or_ge j (ct xs).length with h1 | h1
      · rwa [ct_len] at h1
      · rw [List.getElem?_eq_none h1] at hj; cases hj
    rw [Nat.zero_add, cell_of_row w g j _ _ _ hg, ← hj, ← ht, List.getElem?_take, if_pos (by omega)]
    simp
theorem rd_oneK (w : World) (x : Tok) : Rd (w.alloc (.cells #[.int .i64 (x.1 : Int), .string ⟨x.2.1.toArray⟩, .int .i64 x.2.2.1, .int .i64 (x.2.2.2 : Int)] 143)) (w.alloc (.cells #[.int .i64 (x.1 : Int), .string ⟨x.2.1.toArray⟩, .int .i64 x.2.2.1, .int .i64 (x.2.2.2 : Int)] 143)).heap.size (some ⟨w.heap.size, 0, none⟩) (ct [x]) := by
  obtain ⟨c0, c1, c2, c3, _⟩ := cells4L (heap_alloc_new w (.cells #[.int .i64 (x.1 : Int), .string ⟨x.2.1.toArray⟩, .int .i64 x.2.2.1, .int .i64 (x.2.2.2 : Int)] 143))
  refine .inr ⟨w.heap.size, 0, rfl, by rw [World.size_alloc]; omega, fun j v hj => ?_⟩
  have hj' : [Value.int .i64 (x.1 : Int), .string ⟨x.2.1.toArray⟩, .int .i64 x.2.2.1, .int .i64 (x.2.2.2 : Int)][j]? = some v := hj
  rw [Nat.zero_add]
  rcases j with _ | _ | _ | _ | j
  · exact c0.trans hj'
  · exact c1.trans hj'
  · exact c2.trans hj'
  · exact c3.trans hj'
  · simp at hj'
theorem sb_back {tb : ByteArray} {t : List UInt8} (h : sb tb = t) : tb = ⟨t.toArray⟩ := by
  subst h
  cases tb
  simp [sb]
/-- the tokens from a place on; or an error, and its place -/
def allW (s : ByteArray) (p : Nat) : List Tok ⊕ (Int × Nat) :=
  match tokR s p with
  | .inr e => .inr e
  | .inl (k, t, n, q, p') => if k = 0 then .inl [(k, t, n, q)] else if h : p < p' ∧ p' ≤ s.size then (match allW s p' with
    | .inl l => .inl ((k, t, n, q) :: l)
    | .inr e => .inr e) else .inl []
termination_by s.size - p
decreasing_by omega
/-- the tokens behind those that stand already -/
def preW (ts : List Tok) : List Tok ⊕ (Int × Nat) → List Tok ⊕ (Int × Nat)
  | .inl l => .inl (ts ++ l)
  | .inr e => .inr e
theorem allW_no {s : ByteArray} {p : Nat} {e : Int × Nat} (h : tokR s p = .inr e) : allW s p = .inr e := by
  rw [allW, h]
theorem allW_end {s : ByteArray} {p q p' : Nat} {t : List UInt8} {n : Int} (h : tokR s p = .inl (0, t, n, q, p')) : allW s p = .inl [(0, t, n, q)] := by
  rw [allW, h]; simp
theorem allW_go {s : ByteArray} {p k q p' : Nat} {t : List UInt8} {n : Int} (hp : p ≤ s.size) (hp' : p' ≤ s.size) (h : tokR s p = .inl (k, t, n, q, p')) (hk : k ≠ 0) (ts : List Tok) : p < p' ∧ preW ts (allW s p) = preW (ts ++ [(k, t, n, q)]) (allW s p') := by
  obtain ⟨h1, h2⟩ := tokR_go hp h
  have h3 : p < p' := by rcases h2 with ⟨h2, _⟩ | h2; exact absurd h2 hk; omega
  refine ⟨h3, ?_⟩
  rw [allW, h]
  simp only [if_neg hk, dif_pos (And.intro h3 hp')]
  cases allW s p' <;> simp [preW]
theorem hashR_err {s : ByteArray} {p : Nat} {m : Int} (hm : hashR s p = .inr m) : m ≠ 0 := by
  unfold hashR at hm
  repeat' split at hm
  all_goals first
    | (cases hm; done)
    | (simp only [Sum.inr.injEq] at hm; rw [← hm]; decide)
theorem markR_err {s : ByteArray} {p : Nat} {m : Int} (hm : markR s p = .inr m) : m ≠ 0 := by
  unfold markR at hm
  repeat' split at hm
  all_goals first
    | (cases hm; done)
    | (simp only [Sum.inr.injEq] at hm; rw [← hm]; decide)
theorem tokR_err {s : ByteArray} {p q : Nat} {n : Int} (h : tokR s p = .inr (n, q)) : n ≠ 0 := by
  have hk : ∀ {q0 : Nat} {r : (Nat × List UInt8 × Nat) ⊕ Int}, (∀ m, r = .inr m → m ≠ 0) → ofKw q0 r = .inr (n, q) → n ≠ 0 := by
    intro q0 r hr h
    cases r with
    | inl x =>
      obtain ⟨a, b, c⟩ := x
      cases h
    | inr m =>
      simp only [ofKw, Sum.inr.injEq, Prod.mk.injEq] at h
      rw [← h.1]
      exact hr m rfl
  unfold tokR at h
  split at h
  · next x _ =>
    unfold tokAt at h
    repeat' split at h
    all_goals first
      | (cases h; done)
      | (simp only [Sum.inr.injEq, Prod.mk.injEq] at h; rw [← h.1]; first | decide | assumption)
      | exact hk (fun m hm => hashR_err hm) h
      | exact hk (fun m hm => markR_err hm) h
  · simp only [Sum.inr.injEq, Prod.mk.injEq] at h
    rw [← h.1]
    decide
def AllPost (s : ByteArray) (r : List Tok ⊕ (Int × Nat)) (w : World) (e : Ending) (w' : World) : Prop :=
  Below w.heap.size w w' ∧ ((∃ l A c, r = .inl l ∧ e = .returned (.tuple #[.slice A l.length c, .int .i64 0, .int .i64 0]) ∧ OwnK w' w.heap.size (.slice A l.length c) l) ∨ ∃ n q, r = .inr (n, q) ∧ q ≤ s.size ∧ e = .returned (.tuple #[.slice none 0 0, .int .i64 (q : Int), .int .i64 n]))
end Go.Proofs.YtmdkneollidkfaaGreatDoor.Fl

/-
  The lexer: what a text says behind another is what it says alone.
-/
namespace Go.Proofs.YtmdkneollidkfaaGreatDoor.Fl
open Go.RowKit

/-- from d on, s is b -/
structure Tail (s b : ByteArray) (d : Nat) : Prop where
  size : s.size = d + b.size
  drop : ∀ j, (sb s).drop (d + j) = (sb b).drop j
theorem lookB_drop (s : ByteArray) (p : Nat) : lookB s p = (((sb s).drop p).head?.map UInt8.toNat).getD 0 := by
  unfold lookB
  split
  · next h => rw [drop_at h]; rfl
  · next h => rw [List.drop_of_length_le (by rw [sb_len]; omega)]; rfl
theorem Tail.look {s b : ByteArray} {d : Nat} (h : Tail s b d) (j : Nat) : lookB s (d + j) = lookB b j := by
  rw [lookB_drop, lookB_drop, h.drop]
theorem Tail.run {s b : ByteArray} {d : Nat} (h : Tail s b d) (f : Nat → Bool) (j : Nat) : runE f s (d + j) = d + runE f b j := by
  unfold runE
  rw [h.drop, Nat.add_assoc]
theorem Tail.mid {s b : ByteArray} {d : Nat} (h : Tail s b d) (i j : Nat) : midL s (d + i) (d + j) = midL b i j := by
  unfold midL
  rw [List.drop_take, List.drop_take, h.drop, show d + j - (d + i) = j - i by omega]
theorem Tail.named {s b : ByteArray} {d : Nat} (h : Tail s b d) (j : Nat) : namedR s (d + j) = ((namedR b j).1, d + (namedR b j).2) := by
  unfold namedR
  rw [h.run, h.look, Nat.add_assoc, h.look]
  split <;> rfl
theorem Tail.joinW {s b : ByteArray} {d : Nat} (h : Tail s b d) (j : Nat) : joinW s (d + j) = d + joinW b j := by
  obtain ⟨n, hn⟩ : ∃ n, b.size - j = n := ⟨_, rfl⟩
  induction n using Nat.strongRecOn generalizing j with
  | _ n ih =>
    rw [Fl.joinW.eq_def s (d + j), Fl.joinW.eq_def b j, h.look, h.named, h.size]
    by_cases hc : (letterN (lookB b j) = true ∧ (namedR b j).1 = 2) ∧ j < (namedR b j).2 ∧ (namedR b j).2 ≤ b.size
    · rw [dif_pos hc, dif_pos (by refine ⟨hc.1, ?_, ?_⟩ <;> simp only [] <;> omega)]
      exact ih _ (by omega) _ rfl
    · rw [dif_neg hc, dif_neg]
      intro hd
      exact hc ⟨hd.1, by have := hd.2; simp only [] at this; omega, by have := hd.2; simp only [] at this; omega⟩
theorem Tail.joinR {s b : ByteArray} {d : Nat} (h : Tail s b d) (j : Nat) : joinR s (d + j) = d + joinR b j := by
  unfold Fl.joinR
  rw [h.named]
  simp only []
  split
  · rw [h.joinW]
  · rfl
theorem quoA_shift (d : Nat) : ∀ (n : Nat) (l : List UInt8) (p : Nat), l.length ≤ n → quoA (d + p) l = (quoA p l).map (d + ·)
  | _, [], _, _ => rfl
  | _, [c], p, _ => by
    unfold quoA
    split <;> rfl
  | 0, _ :: _ :: _, _, hn => by simp at hn
  | n + 1, c :: e :: l, p, hn => by
    simp only [List.length_cons] at hn
    unfold quoA
    split
    · split
      · exact quoA_shift d n l (p + 2) (by omega)
      · rfl
    · exact quoA_shift d n (e :: l) (p + 1) (by simp only [List.length_cons]; omega)
def shiftS (d : Nat) : Nat ⊕ Nat → Nat ⊕ Nat
  | .inl q => .inl (d + q)
  | .inr q => .inr (d + q)
theorem skipA_shift (d : Nat) : ∀ (l : List UInt8) (m : Option Nat) (p : Nat), skipA (m.map (d + ·)) (d + p) l = shiftS d (skipA m p l)
  | [], m, p => by cases m <;> rfl
  | c :: l, none, p => by
    show skipA none (d + p) (c :: l) = _
    unfold skipA
    simp only []
    split
    · exact skipA_shift d l none (p + 1)
    · split
      · exact skipA_shift d l (some p) (p + 1)
      · rfl
  | c :: l, some b, p => by
    show skipA (some (d + b)) (d + p) (c :: l) = _
    unfold skipA
    simp only []
    split
    · exact skipA_shift d l none (p + 1)
    · exact skipA_shift d l (some b) (p + 1)
theorem Tail.op {s b : ByteArray} {d : Nat} (h : Tail s b d) (j : Nat) : ∀ k, opF s (d + j) k = opF b j k
  | 0 => rfl
  | k + 1 => by
    unfold opF
    rw [show d + j + (k + 1) = d + (j + (k + 1)) by omega, h.mid, h.size, h.op j k]
    have e : (d + (j + (k + 1)) ≤ d + b.size) = (j + (k + 1) ≤ b.size) := propext ⟨fun x => by omega, fun x => by omega⟩
    simp only [e]
def shiftK (d : Nat) : (Nat × List UInt8 × Nat) ⊕ Int → (Nat × List UInt8 × Nat) ⊕ Int
  | .inl (k, t, p) => .inl (k, t, d + p)
  | .inr n => .inr n
theorem Tail.hash {s b : ByteArray} {d : Nat} (h : Tail s b d) (j : Nat) : hashR s (d + j) = shiftK d (hashR b j) := by
  unfold hashR
  rw [show d + j + 1 = d + (j + 1) by omega, show d + j + 2 = d + (j + 2) by omega, h.look, h.drop, quoA_shift d _ _ _ (Nat.le_refl _), h.joinR, h.mid, h.op, show d + (j + 1) + opF b (j + 1) 2 = d + (j + 1 + opF b (j + 1) 2) by omega, h.mid]
  split
  · rfl
  split
  · cases hq : quoA (j + 2) ((sb b).drop (j + 2)) with
    | none => rfl
    | some q =>
      have := quoA_lt _ _ _ _ (Nat.le_refl _) hq
      simp only [Option.map_some]
      rw [show d + q - 1 = d + (q - 1) by omega, h.mid]
      split <;> rfl
  split
  · split <;> rfl
  · split <;> rfl
theorem Tail.mark {s b : ByteArray} {d : Nat} (h : Tail s b d) (j : Nat) : markR s (d + j) = shiftK d (markR b j) := by
  unfold markR
  rw [h.op, show d + j + opF b j 2 = d + (j + opF b j 2) by omega, h.mid, h.look, show d + j + 1 = d + (j + 1) by omega, h.look, show d + j + 2 = d + (j + 2) by omega]
  split
  · rfl
  split
  · rfl
  split
  · rfl
  split <;> rfl
def shiftT (d : Nat) : TokR → TokR
  | .inl (k, t, n, q, p) => .inl (k, t, n, d + q, d + p)
  | .inr (n, q) => .inr (n, d + q)
theorem ofKw_shift (d q : Nat) (r : (Nat × List UInt8 × Nat) ⊕ Int) : ofKw (d + q) (shiftK d r) = shiftT d (ofKw q r) := by
  cases r with
  | inl x => obtain ⟨a, b, c⟩ := x; rfl
  | inr x => rfl
theorem Tail.tokAt {s b : ByteArray} {d : Nat} (h : Tail s b d) (j : Nat) : tokAt s (d + j) = shiftT d (tokAt b j) := by
  unfold Fl.tokAt
  have e : (d + j = s.size) = (j = b.size) := propext ⟨fun x => by have := h.size; omega, fun x => by have := h.size; omega⟩
  have e1 : (d + j + 1 = s.size) = (j + 1 = b.size) := propext ⟨fun x => by have := h.size; omega, fun x => by have := h.size; omega⟩
  simp only [e]
  rw [h.look, h.named, h.run, h.mid, h.hash, h.mark, ofKw_shift, ofKw_shift]
  simp only [e1]
  rw [h.mid, show d + j + 1 = d + (j + 1) by omega, show d + j + 2 = d + (j + 2) by omega, h.look, h.drop, quoA_shift d _ _ _ (Nat.le_refl _)]
  split
  · rfl
  split
  · split <;> rfl
  split
  · split <;> rfl
  split
  · split <;> rfl
  split
  · cases hq : quoA (j + 1) ((sb b).drop (j + 1)) with
    | none => rfl
    | some q =>
      have := quoA_lt _ _ _ _ (Nat.le_refl _) hq
      simp only [Option.map_some]
      rw [show d + q - 1 = d + (q - 1) by omega, h.mid]
      split <;> rfl
  split <;> rfl
theorem Tail.tokR {s b : ByteArray} {d : Nat} (h : Tail s b d) (j : Nat) : tokR s (d + j) = shiftT d (tokR b j) := by
  unfold Fl.tokR
  rw [h.drop, show skipA none (d + j) ((sb b).drop j) = shiftS d (skipA none j ((sb b).drop j)) from skipA_shift d _ none j]
  cases skipA none j ((sb b).drop j) with
  | inl q => exact h.tokAt q
  | inr q => rfl
def atK (d : Nat) (x : Tok) : Tok := (x.1, x.2.1, x.2.2.1, d + x.2.2.2)
def shiftW (d : Nat) : List Tok ⊕ (Int × Nat) → List Tok ⊕ (Int × Nat)
  | .inl l => .inl (l.map (atK d))
  | .inr (n, q) => .inr (n, d + q)
theorem Tail.allW {s b : ByteArray} {d : Nat} (h : Tail s b d) (j : Nat) : allW s (d + j) = shiftW d (allW b j) := by
  obtain ⟨n, hn⟩ : ∃ n, b.size - j = n := ⟨_, rfl⟩
  induction n using Nat.strongRecOn generalizing j with
  | _ n ih =>
    rw [Fl.allW.eq_def s (d + j), Fl.allW.eq_def b j, h.tokR]
    cases Fl.tokR b j with
    | inr e => rfl
    | inl x =>
      obtain ⟨k, t, m, q, p'⟩ := x
      simp only [shiftT]
      by_cases hk : k = 0
      · rw [if_pos hk, if_pos hk]; rfl
      · rw [if_neg hk, if_neg hk]
        by_cases hc : j < p' ∧ p' ≤ b.size
        · rw [dif_pos hc, dif_pos (by have := h.size; omega), ih _ (by omega) _ rfl]
          cases Fl.allW b p' <;> rfl
        · rw [dif_neg hc, dif_neg (by have := h.size; omega)]; rfl
end Go.Proofs.YtmdkneollidkfaaGreatDoor.Fl

/-
  The lexer: what a text says with a blank behind it is what it says alone.
-/
namespace Go.Proofs.YtmdkneollidkfaaGreatDoor.Fl
open Go.RowKit

theorem quoA_le : ∀ (n : Nat) (l : List UInt8) (p q : Nat), l.length ≤ n → quoA p l = some q → q ≤ p + l.length
  | _, [], p, q, _, h => by cases h
  | _, [c], p, q, _, h => by
    unfold quoA at h
    split at h
    · injection h with h; simp; omega
    · cases h
  | 0, _ :: _ :: _, _, _, hn, _ => by simp at hn
  | n + 1, c :: d :: l, p, q, hn, h => by
    unfold quoA at h
    simp only [List.length_cons] at hn ⊢
    split at h
    · split at h
      · have := quoA_le n l _ _ (by omega) h; omega
      · injection h with h; omega
    · have := quoA_le n (d :: l) _ _ (by simp only [List.length_cons]; omega) h; simp only [List.length_cons] at this; omega
theorem quoA_in {s : ByteArray} {p q : Nat} (hp : p ≤ s.size) (h : quoA p ((sb s).drop p) = some q) : q ≤ s.size := by
  have := quoA_le _ _ _ _ (Nat.le_refl _) h
  rw [List.length_drop, sb_len] at this
  omega
theorem look_in {s : ByteArray} {p : Nat} (h : lookB s p ≠ 0) : p < s.size := by
  rcases Nat.lt_or_ge p s.size with h1 | h1
  · exact h1
  · exact absurd (by unfold lookB; rw [dif_neg (by omega)]) h
theorem hashR_in {s : ByteArray} {q k p : Nat} {t : List UInt8} (hq : q < s.size) (h : hashR s q = .inl (k, t, p)) : p ≤ s.size := by
  unfold hashR at h
  split at h
  · next h0 =>
    simp only [Sum.inl.injEq, Prod.mk.injEq] at h
    have := look_in (s := s) (p := q + 1) (by omega)
    omega
  split at h
  · next h0 =>
    have h1 := look_in (s := s) (p := q + 1) (by omega)
    split at h
    · cases h
    · next x hx =>
      split at h
      · cases h
      · simp only [Sum.inl.injEq, Prod.mk.injEq] at h
        have := quoA_in (by omega) hx
        omega
  split at h
  · split at h
    · cases h
    · simp only [Sum.inl.injEq, Prod.mk.injEq] at h
      have := joinR_le (s := s) (p := q + 1) hq
      omega
  split at h
  · cases h
  · simp only [Sum.inl.injEq, Prod.mk.injEq] at h
    have := opF_le s (q + 1) hq 2
    omega
theorem markR_in {s : ByteArray} {q k p : Nat} {t : List UInt8} (hq : q < s.size) (h : markR s q = .inl (k, t, p)) : p ≤ s.size := by
  unfold markR at h
  split at h
  · simp only [Sum.inl.injEq, Prod.mk.injEq] at h
    have := opF_le s q (Nat.le_of_lt hq) 2
    omega
  split at h
  · simp only [Sum.inl.injEq, Prod.mk.injEq] at h
    omega
  split at h
  · cases h
  split at h
  · simp only [Sum.inl.injEq, Prod.mk.injEq] at h
    omega
  · next h0 =>
    simp only [Sum.inl.injEq, Prod.mk.injEq] at h
    have := look_in (s := s) (p := q + 1) (by omega)
    omega
theorem tokAt_in {s : ByteArray} {q k q0 p : Nat} {t : List UInt8} {n : Int} (hq : q ≤ s.size) (h : tokAt s q = .inl (k, t, n, q0, p)) : p ≤ s.size := by
  unfold tokAt at h
  split at h
  · simp only [Sum.inl.injEq, Prod.mk.injEq] at h
    omega
  split at h
  · split at h
    · cases h
    · simp only [Sum.inl.injEq, Prod.mk.injEq] at h
      have := namedR_le hq
      omega
  split at h
  · split at h
    · simp only [Sum.inl.injEq, Prod.mk.injEq] at h
      have := runE_le (f := digitN) hq
      omega
    · cases h
  split at h
  · split at h
    · cases h
    · simp only [Sum.inl.injEq, Prod.mk.injEq] at h
      omega
  split at h
  · split at h
    · cases h
    · next x hx =>
      split at h
      · cases h
      · simp only [Sum.inl.injEq, Prod.mk.injEq] at h
        have := quoA_in (by omega) hx
        omega
  split at h
  · obtain ⟨h1, _, rfl⟩ := ofKw_inl h
    exact hashR_in (by omega) h1
  · obtain ⟨h1, _, rfl⟩ := ofKw_inl h
    exact markR_in (by omega) h1
theorem tokR_in {s : ByteArray} {p k q p' : Nat} {t : List UInt8} {n : Int} (hp : p ≤ s.size) (h : tokR s p = .inl (k, t, n, q, p')) : p' ≤ s.size := by
  unfold tokR at h
  split at h
  · next x hx =>
    refine tokAt_in ?_ h
    have := skipA_end _ _ _ _ hx
    rw [List.length_drop, sb_len] at this
    omega
  · cases h
/-- s begins with a, and a blank -/
structure Pre (s a : ByteArray) (r : List UInt8) : Prop where
  eq : sb s = sb a ++ 32 :: r
theorem Pre.size {s a : ByteArray} {r : List UInt8} (h : Pre s a r) : s.size = a.size + 1 + r.length := by
  have := congrArg List.length h.eq
  rw [List.length_append, sb_len, sb_len, List.length_cons] at this
  omega
theorem Pre.drop {s a : ByteArray} {r : List UInt8} (h : Pre s a r) {j : Nat} (hj : j ≤ a.size) : (sb s).drop j = (sb a).drop j ++ 32 :: r := by
  rw [h.eq, List.drop_append_of_le_length (by rw [sb_len]; exact hj)]
theorem Pre.look {s a : ByteArray} {r : List UInt8} (h : Pre s a r) {j : Nat} (hj : j < a.size) : lookB s j = lookB a j := by
  rw [lookB_drop, lookB_drop, h.drop (Nat.le_of_lt hj), drop_at hj]
  rfl
theorem Pre.end_ {s a : ByteArray} {r : List UInt8} (h : Pre s a r) : lookB s a.size = 32 := by
  rw [lookB_drop, h.drop (Nat.le_refl _), List.drop_of_length_le (by rw [sb_len]; exact Nat.le_refl _)]
  rfl
theorem look_end (a : ByteArray) : lookB a a.size = 0 := by unfold lookB; rw [dif_neg (Nat.lt_irrefl _)]
theorem Pre.lookF {s a : ByteArray} {r : List UInt8} (h : Pre s a r) {α : Type} (f : Nat → α) (hf : f 32 = f 0) {j : Nat} (hj : j ≤ a.size) : f (lookB s j) = f (lookB a j) := by
  rcases Nat.lt_or_eq_of_le hj with h1 | rfl
  · rw [h.look h1]
  · rw [h.end_, look_end, hf]
theorem Pre.lookE {s a : ByteArray} {r : List UInt8} (h : Pre s a r) (c : Nat) (h1 : 32 ≠ c) (h2 : 0 ≠ c) {j : Nat} (hj : j ≤ a.size) : (lookB s j = c) = (lookB a j = c) :=
  h.lookF (fun x => x = c) (by simp [h1, h2]) hj
theorem Pre.run {s a : ByteArray} {r : List UInt8} (h : Pre s a r) (f : Nat → Bool) (hf : f 32 = false) {j : Nat} (hj : j ≤ a.size) : runE f s j = runE f a j := by
  unfold runE
  rw [h.drop hj]
  congr 2
  generalize (sb a).drop j = l
  induction l with
  | nil => rw [List.nil_append, List.takeWhile_cons, if_neg (by rw [show (32 : UInt8).toNat = 32 from rfl, hf]; simp)]; rfl
  | cons c l ih =>
    rw [List.cons_append, List.takeWhile_cons, List.takeWhile_cons, ih]
theorem Pre.mid {s a : ByteArray} {r : List UInt8} (h : Pre s a r) (i : Nat) {j : Nat} (hj : j ≤ a.size) : midL s i j = midL a i j := by
  unfold midL
  rw [h.eq, List.take_append_of_le_length (by rw [sb_len]; exact hj)]
theorem Pre.named {s a : ByteArray} {r : List UInt8} (h : Pre s a r) {j : Nat} (hj : j ≤ a.size) : namedR s j = namedR a j := by
  have hle := (runE_le (f := partN) hj).2
  unfold namedR
  rw [h.run partN (by decide) hj]
  have e1 := h.lookE 58 (by decide) (by decide) hle
  by_cases hc : lookB a (runE partN a j) = 58
  · have h1 := look_in (s := a) (p := runE partN a j) (by omega)
    have e2 := h.lookE 61 (by decide) (by decide) (show runE partN a j + 1 ≤ a.size from h1)
    simp only [ne_eq, e1, e2]
  · simp only [e1, hc, false_and]
theorem Pre.joinW {s a : ByteArray} {r : List UInt8} (h : Pre s a r) {j : Nat} (hj : j ≤ a.size) : joinW s j = joinW a j := by
  obtain ⟨n, hn⟩ : ∃ n, a.size - j = n := ⟨_, rfl⟩
  induction n using Nat.strongRecOn generalizing j with
  | _ n ih =>
    have hl := h.lookF letterN (by decide) hj
    have hle := namedR_le hj
    rw [Fl.joinW.eq_def s j, Fl.joinW.eq_def a j, hl, h.named hj]
    have hz := h.size
    by_cases hc : (letterN (lookB a j) = true ∧ (namedR a j).1 = 2) ∧ j < (namedR a j).2 ∧ (namedR a j).2 ≤ a.size
    · rw [dif_pos hc, dif_pos ⟨hc.1, hc.2.1, by omega⟩]
      exact ih _ (by omega) hle.2 rfl
    · rw [dif_neg hc, dif_neg]
      exact fun hd => hc ⟨hd.1, hd.2.1, hle.2⟩
theorem Pre.joinR {s a : ByteArray} {r : List UInt8} (h : Pre s a r) {j : Nat} (hj : j ≤ a.size) : joinR s j = joinR a j := by
  unfold Fl.joinR
  rw [h.named hj, h.joinW (namedR_le hj).2]
theorem quoA_pre (r : List UInt8) : ∀ (n : Nat) (l : List UInt8) (p q : Nat), l.length ≤ n → quoA p l = some q → quoA p (l ++ 32 :: r) = some q
  | _, [], p, q, _, h => by cases h
  | _, [c], p, q, _, h => by
    unfold quoA at h
    split at h
    · next hc =>
      show quoA p (c :: 32 :: r) = _
      unfold quoA
      rw [if_pos hc, if_neg (by decide)]
      exact h
    · cases h
  | 0, _ :: _ :: _, _, _, hn, _ => by simp at hn
  | n + 1, c :: d :: l, p, q, hn, h => by
    unfold quoA at h
    simp only [List.length_cons] at hn
    show quoA p (c :: d :: (l ++ 32 :: r)) = _
    unfold quoA
    split at h
    · next hc =>
      rw [if_pos hc]
      split at h
      · next hd => rw [if_pos hd]; exact quoA_pre r n l _ _ (by omega) h
      · next hd => rw [if_neg hd]; exact h
    · next hc =>
      rw [if_neg hc]
      exact quoA_pre r n (d :: l) _ _ (by simp only [List.length_cons]; omega) h
theorem Pre.quo {s a : ByteArray} {r : List UInt8} (h : Pre s a r) {p q : Nat} (hp : p ≤ a.size) (hq : quoA p ((sb a).drop p) = some q) : quoA p ((sb s).drop p) = some q := by
  rw [h.drop hp]
  exact quoA_pre r _ _ _ _ (Nat.le_refl _) hq
theorem isOpL_blank {l : List UInt8} (h : (32 : UInt8) ∈ l) : isOpL l = false := by
  unfold isOpL
  rw [if_neg]
  · rw [beq_eq_false_iff_ne]
    rintro rfl
    simp at h
  · rw [List.all_eq_true]
    intro hc
    exact absurd (hc _ h) (by decide)
theorem Pre.op {s a : ByteArray} {r : List UInt8} (h : Pre s a r) {j : Nat} (hj : j ≤ a.size) : ∀ k, opF s j k = opF a j k
  | 0 => rfl
  | k + 1 => by
    have hz := h.size
    unfold opF
    rw [h.op hj k]
    rcases Nat.lt_or_ge a.size (j + (k + 1)) with h1 | h1
    · rw [if_neg (show ¬(j + (k + 1) ≤ a.size ∧ _) from fun x => by omega), if_neg]
      rintro ⟨h2, h3⟩
      rw [isOpL_blank] at h3
      · cases h3
      · unfold midL
        rw [h.eq, List.take_append, List.take_of_length_le (by rw [sb_len]; omega), sb_len, show j + (k + 1) - a.size = (j + k - a.size) + 1 by omega, List.take_succ_cons, List.drop_append_of_le_length (by rw [sb_len]; exact hj)]
        simp
    · rw [h.mid j h1]
      have e : (j + (k + 1) ≤ s.size) = (j + (k + 1) ≤ a.size) := propext ⟨fun _ => h1, fun _ => by omega⟩
      simp only [e]
end Go.Proofs.YtmdkneollidkfaaGreatDoor.Fl

/-
  The lexer: two texts with a blank between.
-/
namespace Go.Proofs.YtmdkneollidkfaaGreatDoor.Fl
open Go.RowKit

theorem Pre.hash {s a : ByteArray} {r : List UInt8} (h : Pre s a r) {q : Nat} (hq : q < a.size) {x : Nat × List UInt8 × Nat} (hx : hashR a q = .inl x) : hashR s q = .inl x := by
  have hj := joinR_le (s := a) (p := q + 1) hq
  have ho := opF_le a (q + 1) hq 2
  have e1 := h.lookE 40 (by decide) (by decide) (show q + 1 ≤ a.size from hq)
  have e2 := h.lookE 39 (by decide) (by decide) (show q + 1 ≤ a.size from hq)
  unfold hashR at hx ⊢
  simp only [e1, e2, h.lookF letterN (by decide) (show q + 1 ≤ a.size from hq), h.joinR (show q + 1 ≤ a.size from hq), h.op (show q + 1 ≤ a.size from hq), h.mid (q + 1) hj.2, h.mid (q + 1) ho.1]
  split at hx
  · next h0 => rw [if_pos h0]; exact hx
  next h0 =>
  rw [if_neg h0]
  split at hx
  · next h1 =>
    rw [if_pos h1]
    have hin := look_in (s := a) (p := q + 1) (by omega)
    split at hx
    · cases hx
    · next y hy =>
      rw [h.quo (by omega) hy]
      have hyl := quoA_in (by omega) hy
      simp only []
      rw [h.mid (q + 2) (show y - 1 ≤ a.size by omega)]
      exact hx
  next h1 =>
  rw [if_neg h1]
  exact hx
theorem Pre.mark {s a : ByteArray} {r : List UInt8} (h : Pre s a r) {q : Nat} (hq : q < a.size) : markR s q = markR a q := by
  have ho := opF_le a q (Nat.le_of_lt hq) 2
  have e2 := h.lookE 61 (by decide) (by decide) (show q + 1 ≤ a.size from hq)
  unfold markR
  simp only [ne_eq, e2, h.look hq, h.op (Nat.le_of_lt hq), h.mid q ho.1]
theorem Pre.tokAt {s a : ByteArray} {r : List UInt8} (h : Pre s a r) {q : Nat} (hq : q < a.size) {x : Nat × List UInt8 × Int × Nat × Nat} (hx : tokAt a q = .inl x) : tokAt s q = .inl x := by
  have hz := h.size
  have hn := namedR_le (Nat.le_of_lt hq)
  have hd := runE_le (f := digitN) (Nat.le_of_lt hq)
  unfold Fl.tokAt at hx ⊢
  rw [if_neg (by omega)] at hx
  rw [if_neg (by omega)]
  simp only [h.look hq, h.named (Nat.le_of_lt hq), h.run digitN (by decide) (Nat.le_of_lt hq), h.mid q hn.2, h.mid q hd.2, h.mark hq]
  split at hx
  · next h0 => rw [if_pos h0]; exact hx
  next h0 =>
  rw [if_neg h0]
  split at hx
  · next h1 => rw [if_pos h1]; exact hx
  next h1 =>
  rw [if_neg h1]
  split at hx
  · next h2 =>
    rw [if_pos h2]
    split at hx
    · cases hx
    · next h3 =>
      rw [if_neg (by omega), h.look (by omega)]
      exact hx
  next h2 =>
  rw [if_neg h2]
  split at hx
  · next h3 =>
    rw [if_pos h3]
    split at hx
    · cases hx
    · next y hy =>
      rw [h.quo (by omega) hy]
      have hyl := quoA_in (by omega) hy
      simp only []
      rw [h.mid (q + 1) (show y - 1 ≤ a.size by omega)]
      exact hx
  next h3 =>
  rw [if_neg h3]
  split at hx
  · next h4 =>
    rw [if_pos h4]
    cases hh : hashR a q with
    | inl y => rw [h.hash hq hh, ← hh]; exact hx
    | inr m => rw [hh] at hx; cases hx
  next h4 =>
  rw [if_neg h4]
  exact hx
theorem skipA_pre (r : List UInt8) : ∀ (l : List UInt8) (m : Option Nat) (p q : Nat), skipA m p l = .inl q → skipA m p (l ++ 32 :: r) = if q = p + l.length then skipA none (p + l.length + 1) r else .inl q
  | [], m, p, q, h => by
    unfold skipA at h
    split at h
    · injection h with h
      rw [if_pos (by simp; omega)]
      show skipA none p (32 :: r) = _
      rw [skipA]
      rfl
    · cases h
  | c :: l, none, p, q, h => by
    show skipA none p (c :: (l ++ 32 :: r)) = _
    rw [skipA] at h ⊢
    try simp only [] at h
    try simp only []
    rw [List.length_cons, show p + (l.length + 1) = p + 1 + l.length by omega]
    split at h
    · next h0 => rw [if_pos h0]; exact skipA_pre r l none (p + 1) q h
    · next h0 =>
      rw [if_neg h0]
      split at h
      · next h1 => rw [if_pos h1]; exact skipA_pre r l (some p) (p + 1) q h
      · next h1 =>
        rw [if_neg h1]
        injection h with h
        rw [if_neg (by omega), h]
  | c :: l, some b, p, q, h => by
    show skipA (some b) p (c :: (l ++ 32 :: r)) = _
    rw [skipA] at h ⊢
    try simp only [] at h
    try simp only []
    rw [List.length_cons, show p + (l.length + 1) = p + 1 + l.length by omega]
    split at h
    · next h0 => rw [if_pos h0]; exact skipA_pre r l none (p + 1) q h
    · next h0 => rw [if_neg h0]; exact skipA_pre r l (some b) (p + 1) q h
theorem Pre.behind {s a : ByteArray} {r : List UInt8} (h : Pre s a r) : (sb s).drop (a.size + 1) = r := by
  rw [h.eq, List.drop_append, List.drop_of_length_le (by rw [sb_len]; omega), sb_len, show a.size + 1 - a.size = 1 by omega]
  rfl
theorem Pre.skip {s a : ByteArray} {r : List UInt8} (h : Pre s a r) {p q : Nat} (hp : p ≤ a.size) (hq : skipA none p ((sb a).drop p) = .inl q) : skipA none p ((sb s).drop p) = if q = a.size then skipA none (a.size + 1) ((sb s).drop (a.size + 1)) else .inl q := by
  rw [h.drop hp, skipA_pre r _ _ _ _ hq, List.length_drop, sb_len, show p + (a.size - p) = a.size by omega, h.behind]
/-- a token of the first text -/
theorem Pre.tokR {s a : ByteArray} {r : List UInt8} (h : Pre s a r) {p k q p' : Nat} {t : List UInt8} {n : Int} (hp : p ≤ a.size) (hx : tokR a p = .inl (k, t, n, q, p')) : tokR s p = if k = 0 then Fl.tokR s (a.size + 1) else .inl (k, t, n, q, p') := by
  have hgo := tokR_go hp hx
  unfold Fl.tokR at hx ⊢
  cases hs : skipA none p ((sb a).drop p) with
  | inr b => rw [hs] at hx; cases hx
  | inl q0 =>
    rw [hs] at hx
    simp only [] at hx
    have hq0 : q0 ≤ a.size := by
      have := skipA_end _ _ _ _ hs
      rw [List.length_drop, sb_len] at this
      omega
    obtain ⟨rfl, h2⟩ := tokAt_lt hq0 hx
    rw [h.skip hp hs]
    by_cases hk : k = 0
    · have hqa : q = a.size := by rcases h2 with h2 | h2; exact h2.2.1; exact absurd hk h2.1
      rw [if_pos hk, if_pos hqa]
    · have hqa : q < a.size := by
        rcases h2 with h2 | h2
        · exact absurd h2.1 hk
        · have := tokAt_in hq0 hx; omega
      rw [if_neg hk, if_neg (by omega)]
      exact h.tokAt hqa hx
theorem preW_pre (xs ys : List Tok) (r : List Tok ⊕ (Int × Nat)) : preW xs (preW ys r) = preW (xs ++ ys) r := by
  cases r <;> simp [preW]
theorem preW_nil (r : List Tok ⊕ (Int × Nat)) : preW [] r = r := by cases r <;> rfl
theorem allW_of {s : ByteArray} {p p0 : Nat} (h : p ≤ p0) (hp : p0 ≤ s.size) (ht : Fl.tokR s p = Fl.tokR s p0) : allW s p = allW s p0 := by
  rw [Fl.allW.eq_def s p, Fl.allW.eq_def s p0, ht]
  cases hx : Fl.tokR s p0 with
  | inr e => rfl
  | inl x =>
    obtain ⟨k, t, m, q, p'⟩ := x
    simp only []
    by_cases hk : k = 0
    · rw [if_pos hk, if_pos hk]
    · have h1 := tokR_go hp hx
      have h2 := tokR_in hp hx
      have h3 : p0 < p' := by rcases h1.2 with h3 | h3; exact absurd h3.1 hk; omega
      rw [if_neg hk, if_neg hk, dif_pos (show p < p' ∧ p' ≤ s.size from ⟨by omega, h2⟩), dif_pos ⟨h3, h2⟩]
theorem Pre.allW {s a : ByteArray} {r : List UInt8} (h : Pre s a r) {p : Nat} (hp : p ≤ a.size) {x : List Tok} (hx : allW a p = .inl x) :
    ∃ x' t m, x = x' ++ [(0, t, m, a.size)] ∧ allW s p = preW x' (Fl.allW s (a.size + 1)) := by
  obtain ⟨n, hn⟩ : ∃ n, a.size - p = n := ⟨_, rfl⟩
  induction n using Nat.strongRecOn generalizing p x with
  | _ n ih =>
    have hz := h.size
    cases ht : Fl.tokR a p with
    | inr e => rw [allW_no ht] at hx; cases hx
    | inl y =>
      obtain ⟨k, t, m, q, p'⟩ := y
      have hgo := tokR_go hp ht
      have hin := tokR_in hp ht
      have hs := h.tokR hp ht
      by_cases hk : k = 0
      · subst hk
        rw [allW_end ht] at hx
        injection hx with hx
        have hq : q = a.size := by rcases hgo.2 with h2 | h2; exact h2.2.1; exact absurd rfl h2.1
        rw [if_pos rfl] at hs
        exact ⟨[], t, m, by rw [← hx, hq]; rfl, by rw [preW_nil]; exact allW_of (by omega) (by omega) hs⟩
      · rw [if_neg hk] at hs
        have h1 := allW_go hp hin ht hk []
        have h2 := allW_go (s := s) (by omega) (by omega) hs hk []
        rw [preW_nil, hx] at h1
        rw [preW_nil] at h2
        cases hy : Fl.allW a p' with
        | inr e => rw [hy] at h1; cases h1.2
        | inl l =>
          rw [hy] at h1
          obtain ⟨x', t', m', he, hs'⟩ := ih (a.size - p') (by have := h1.1; omega) hin hy rfl
          have h3 : x = (k, t, m, q) :: l := by
            have := h1.2
            injection this
          exact ⟨(k, t, m, q) :: x', t', m', by rw [h3, he]; rfl, by rw [h2.2, hs', preW_pre]; rfl⟩
/-- two texts with a blank between -/
theorem joins {s a b : ByteArray} (h : sb s = sb a ++ 32 :: sb b) {x : List Tok} (hx : allW a 0 = .inl x) :
    ∃ x' t m, x = x' ++ [(0, t, m, a.size)] ∧ allW s 0 = preW x' (shiftW (a.size + 1) (allW b 0)) := by
  have hP : Pre s a (sb b) := ⟨h⟩
  have hz := hP.size
  rw [sb_len] at hz
  have hT : Tail s b (a.size + 1) := ⟨by omega, fun j => by rw [← List.drop_drop, hP.behind]⟩
  obtain ⟨x', t, m, he, hs⟩ := hP.allW (Nat.zero_le _) hx
  exact ⟨x', t, m, he, by rw [hs, ← hT.allW 0]⟩
end Go.Proofs.YtmdkneollidkfaaGreatDoor.Fl
