/-
  The lexer: tokens in memory; All.
-/
import Derived.Test.YtakijeooaeflkaaGreatDoorLxP
namespace Go.Proofs.YtakijeooaeflkaaGreatDoor.Fl
open Go.RowKit

/-- a token: kind, word, number, place -/
abbrev Tok := Nat × List UInt8 × Int × Nat
def tcells (x : Tok) : List Value := [.int .i64 (x.1 : Int), .string ⟨x.2.1.toArray⟩, .int .i64 x.2.2.1, .int .i64 (x.2.2.2 : Int)]
def ct : List Tok → List Value
  | [] => []
  | x :: l => tcells x ++ ct l
theorem ct_len : ∀ l : List Tok, (ct l).length = l.length * 4
  | [] => rfl
  | x :: l => by rw [ct, List.length_append, ct_len l, List.length_cons]; show 4 + _ = _; omega
theorem ct_append : ∀ l m : List Tok, ct (l ++ m) = ct l ++ ct m
  | [], _ => rfl
  | x :: l, m => by rw [List.cons_append, ct, ct, ct_append l m, List.append_assoc]
theorem ct_one : ∀ (l : List Tok), ∀ v ∈ ct l, v.oneCell' = true
  | [], v, h => by cases h
  | x :: l, v, h => by
    rw [ct, List.mem_append] at h
    rcases h with h | h
    · simp only [tcells, List.mem_cons, List.not_mem_nil, or_false] at h
      rcases h with rfl | rfl | rfl | rfl <;> rfl
    · exact ct_one l v h
theorem ct_at : ∀ (l : List Tok) (k : Nat) (h : k < l.length), (ct l)[4 * k]? = some (.int .i64 (l[k].1 : Int)) ∧ (ct l)[4 * k + 1]? = some (.string ⟨l[k].2.1.toArray⟩) ∧ (ct l)[4 * k + 2]? = some (.int .i64 l[k].2.2.1) ∧ (ct l)[4 * k + 3]? = some (.int .i64 (l[k].2.2.2 : Int))
  | x :: l, 0, _ => ⟨rfl, rfl, rfl, rfl⟩
  | x :: l, k + 1, h => by
    have ih := ct_at l k (by simpa using h)
    have e : ∀ j, (ct (x :: l))[4 * (k + 1) + j]? = (ct l)[4 * k + j]? := fun j => by
      rw [ct, List.getElem?_append_right (show (tcells x).length ≤ _ by show 4 ≤ _; omega)]
      show (ct l)[4 * (k + 1) + j - 4]? = _
      rw [show 4 * (k + 1) + j - 4 = 4 * k + j by omega]
    have e0 := e 0
    rw [Nat.add_zero, Nat.add_zero] at e0
    rw [e0, e 1, e 2, e 3]
    exact ih
theorem tokinfo : (Tryz.prog.info? 30).map (fun i => (i.zero, i.size, i.bytes)) = some (some (.agg #[.int .i64 0, .string ⟨#[]⟩, .int .i64 0, .int .i64 0]), 4, 40) := by kernel_rfl
def OwnK (w : World) (base : Nat) (v : Value) (l : List Tok) : Prop := w.ownsRow base 30 4 v l.length (ct l)
theorem OwnK.below {w w' : World} {base : Nat} {v : Value} {xs : List Tok} (h : OwnK w base v xs) (hb : Below w.heap.size w w') : OwnK w' base v xs :=
  ⟨h.1, h.2.elim .inl fun ⟨g, cap, cur, hv, hbg, hg, r⟩ => .inr ⟨g, cap, cur, hv, hbg, (hb.block g (lt_of_blk hg)).trans hg, r⟩⟩
/-- append of tokens onto a row of the call's own -/
theorem wpList_append_k {w : World} {base c : Nat} {A : Option Addr} {xs news : List Tok} {v : Value} {ops : Array Oper} {rest : List Oper} {o : Oper} {a : Act} {Q : Exit → Act → World → Prop} (hg : o.guard = none) (s x : Operand) (ho : o.op = .call { callee := .builtin .append, args := #[s, x], argTypes := #[34, 34] })
    (hs : a.eval s = v) (hx : a.eval x = .slice A news.length c) (hown : OwnK w base v xs) (hr : Rd w w.heap.size A (ct news)) (hA : A = none → news.length = 0) (hl : xs.length ≤ 100000000) (hl2 : news.length ≤ 100000000) (hb : base ≤ w.heap.size)
    (h : ∀ A' ts c' w', Hid (ts = xs ++ news) → Hid (OwnK w' base (.slice A' ts.length c') ts) → Hid (Below base w w' ∧ ∀ k, k < w.heap.size → some k ≠ v.ownBlock → w'.heap[k]? = w.heap[k]?) → wpList Tryz.prog ops Q rest (a.put o.dst (.slice A' ts.length c')) w') : wpList Tryz.prog ops Q (o :: rest) a w := by
  obtain ⟨i0, hi, hz0, hz1, hz2⟩ := info_parts tokinfo
  refine wpList_append_rd (base := base) (size := 4) (bytes := 40) (n := xs.length) (m := news.length) (c := c) (v := v) (xs := ct xs) (news := ct news) hg s x ho Tryz.underlying34 hi hz0 hz1 hz2 rfl (by decide) hs hx hown hr (ct_len _) hA (ct_one news) (by unfold maxLen; omega) (by omega) hb ?_
  intro v' w' happ
  obtain ⟨A', c', rfl, _, _⟩ := happ.slice
  have e : xs.length + news.length = (xs ++ news).length := by simp
  have ho := happ.own
  rw [e, show ct xs ++ ct news = ct (xs ++ news) from (ct_append _ _).symm] at ho
  rw [e]
  exact h A' (xs ++ news) c' w' (Lib.hid rfl) (Lib.hid ho) (Lib.hid ⟨(Below.refl _ _).grown happ.grown hb (fun j hj => (World.ownsRow.lt hown j hj).1), happ.grown.block⟩)
theorem ownK_rd {w : World} {base n c : Nat} {A : Option Addr} {xs : List Tok} (h : OwnK w base (.slice A n c) xs) : Rd w w.heap.size A (ct xs) := by
  rcases h.2 with ⟨_, e2⟩ | ⟨g, cap, cur, e1, hb, hg, _, _, _, ht⟩
  · rw [List.eq_nil_of_length_eq_zero e2]; exact .inl rfl
  · injection e1 with e1 _ _
    subst e1
    refine .inr ⟨g, 0, rfl, lt_of_blk hg, fun j v hj => ?_⟩
    have hjl : j < xs.length * 4 := by
      rcases Nat.lt_or_ge j (ct xs).length with h1 | h1
      · rwa [ct_len] at h1
      · rw [List.getElem?_eq_none h1] at hj; cases hj
    rw [Nat.zero_add, cell_of_row w g j _ _ _ hg, ← hj, ← ht, List.getElem?_take, if_pos (by omega)]
    simp
theorem rd_oneK (w : World) (x : Tok) : Rd (w.alloc (.cells #[.int .i64 (x.1 : Int), .string ⟨x.2.1.toArray⟩, .int .i64 x.2.2.1, .int .i64 (x.2.2.2 : Int)] 30)) (w.alloc (.cells #[.int .i64 (x.1 : Int), .string ⟨x.2.1.toArray⟩, .int .i64 x.2.2.1, .int .i64 (x.2.2.2 : Int)] 30)).heap.size (some ⟨w.heap.size, 0, none⟩) (ct [x]) := by
  obtain ⟨c0, c1, c2, c3, _⟩ := cells4L (heap_alloc_new w (.cells #[.int .i64 (x.1 : Int), .string ⟨x.2.1.toArray⟩, .int .i64 x.2.2.1, .int .i64 (x.2.2.2 : Int)] 30))
  refine .inr ⟨w.heap.size, 0, rfl, by rw [World.size_alloc]; omega, fun j v hj => ?_⟩
  have hj' : [Value.int .i64 (x.1 : Int), .string ⟨x.2.1.toArray⟩, .int .i64 x.2.2.1, .int .i64 (x.2.2.2 : Int)][j]? = some v := hj
  rw [Nat.zero_add]
  rcases j with _ | _ | _ | _ | j
  · exact c0.trans hj'
  · exact c1.trans hj'
  · exact c2.trans hj'
  · exact c3.trans hj'
  · simp at hj'
theorem sb_back {tb : ByteArray} {t : List UInt8} (h : sb tb = t) : tb = ⟨t.toArray⟩ := by
  subst h
  cases tb
  simp [sb]
/-- the tokens from a place on; or an error, and its place -/
def allW (s : ByteArray) (p : Nat) : List Tok ⊕ (Int × Nat) :=
  match tokR s p with
  | .inr e => .inr e
  | .inl (k, t, n, q, p') => if k = 0 then .inl [(k, t, n, q)] else if h : p < p' ∧ p' ≤ s.size then (match allW s p' with
    | .inl l => .inl ((k, t, n, q) :: l)
    | .inr e => .inr e) else .inl []
termination_by s.size - p
decreasing_by omega
/-- the tokens behind those that stand already -/
def preW (ts : List Tok) : List Tok ⊕ (Int × Nat) → List Tok ⊕ (Int × Nat)
  | .inl l => .inl (ts ++ l)
  | .inr e => .inr e
theorem allW_no {s : ByteArray} {p : Nat} {e : Int × Nat} (h : tokR s p = .inr e) : allW s p = .inr e := by
  rw [allW, h]
theorem allW_end {s : ByteArray} {p q p' : Nat} {t : List UInt8} {n : Int} (h : tokR s p = .inl (0, t, n, q, p')) : allW s p = .inl [(0, t, n, q)] := by
  rw [allW, h]; simp
theorem allW_go {s : ByteArray} {p k q p' : Nat} {t : List UInt8} {n : Int} (hp : p ≤ s.size) (hp' : p' ≤ s.size) (h : tokR s p = .inl (k, t, n, q, p')) (hk : k ≠ 0) (ts : List Tok) : p < p' ∧ preW ts (allW s p) = preW (ts ++ [(k, t, n, q)]) (allW s p') := by
  obtain ⟨h1, h2⟩ := tokR_go hp h
  have h3 : p < p' := by rcases h2 with ⟨h2, _⟩ | h2; exact absurd h2 hk; omega
  refine ⟨h3, ?_⟩
  rw [allW, h]
  simp only [if_neg hk, dif_pos (And.intro h3 hp')]
  cases allW s p' <;> simp [preW]
theorem hashR_err {s : ByteArray} {p : Nat} {m : Int} (hm : hashR s p = .inr m) : m ≠ 0 := by
  unfold hashR at hm
  repeat' split at hm
  all_goals first
    | (cases hm; done)
    | (simp only [Sum.inr.injEq] at hm; rw [← hm]; decide)
theorem markR_err {s : ByteArray} {p : Nat} {m : Int} (hm : markR s p = .inr m) : m ≠ 0 := by
  unfold markR at hm
  repeat' split at hm
  all_goals first
    | (cases hm; done)
    | (simp only [Sum.inr.injEq] at hm; rw [← hm]; decide)
theorem tokR_err {s : ByteArray} {p q : Nat} {n : Int} (h : tokR s p = .inr (n, q)) : n ≠ 0 := by
  have hk : ∀ {q0 : Nat} {r : (Nat × List UInt8 × Nat) ⊕ Int}, (∀ m, r = .inr m → m ≠ 0) → ofKw q0 r = .inr (n, q) → n ≠ 0 := by
    intro q0 r hr h
    cases r with
    | inl x =>
      obtain ⟨a, b, c⟩ := x
      cases h
    | inr m =>
      simp only [ofKw, Sum.inr.injEq, Prod.mk.injEq] at h
      rw [← h.1]
      exact hr m rfl
  unfold tokR at h
  split at h
  · next x _ =>
    unfold tokAt at h
    repeat' split at h
    all_goals first
      | (cases h; done)
      | (simp only [Sum.inr.injEq, Prod.mk.injEq] at h; rw [← h.1]; first | decide | assumption)
      | exact hk (fun m hm => hashR_err hm) h
      | exact hk (fun m hm => markR_err hm) h
  · simp only [Sum.inr.injEq, Prod.mk.injEq] at h
    rw [← h.1]
    decide
def AllPost (s : ByteArray) (r : List Tok ⊕ (Int × Nat)) (w : World) (e : Ending) (w' : World) : Prop :=
  Below w.heap.size w w' ∧ ((∃ l A c, r = .inl l ∧ e = .returned (.tuple #[.slice A l.length c, .int .i64 0, .int .i64 0]) ∧ OwnK w' w.heap.size (.slice A l.length c) l) ∨ ∃ n q, r = .inr (n, q) ∧ q ≤ s.size ∧ e = .returned (.tuple #[.slice none 0 0, .int .i64 (q : Int), .int .i64 n]))
end Go.Proofs.YtakijeooaeflkaaGreatDoor.Fl
