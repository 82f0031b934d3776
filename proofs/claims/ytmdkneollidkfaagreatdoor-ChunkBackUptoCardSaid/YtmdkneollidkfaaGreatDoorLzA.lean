/-
  The document's lexer: All.
-/
import Derived.Test.YtmdkneollidkfaaGreatDoorLyB
import Derived.Test.YtmdkneollidkfaaGreatDoorLyF
namespace Go.Proofs.YtmdkneollidkfaaGreatDoor.Fl
open Go.RowKit

end Go.Proofs.YtmdkneollidkfaaGreatDoor.Fl

/-
  The document's chunks: blanks, a chunk from a place on.
-/
namespace Go.Proofs.YtmdkneollidkfaaGreatDoor.Fl
open Go.RowKit

theorem rblank_any (c : Nat) (w : World) (hc : c < 256) :
    Calls Tryz.prog 42 #[.int .u8 (c : Int)] w fun e w' => e = .returned (.bool (blankN c)) ∧ w = w' := by
  obtain ⟨r, hr⟩ : ∃ r, blankN c = r := ⟨_, rfl⟩
  rw [hr]
  have HR := Lib.hid hr
  clear hr
  go_enter Tryz.func42, Tryz.ntmps42
  go_wp2_with fail
  all_goals
    go_ret
    refine ⟨congrArg (fun x => Ending.returned (Value.bool x)) ?_, rfl⟩
    rw [← HR.out]
    unfold blankN
    refine Bool.eq_iff_iff.2 ?_
    first
    | (simp; done)
    | (simp; omega)
    | (simp only [beq_iff_eq, beq_eq_false_iff_ne, ne_eq] at *; simp; omega)
theorem rnamed_any (s : ByteArray) (w : World) (hs : s.size ≤ 16777216) :
    Calls Tryz.prog 40 #[.string s] w fun e w' => e = .returned (.bool (arityL s == 0)) ∧ w = w' := by
  have h := rarity_any s w hs
  generalize arityL s = a at *
  go_enter Tryz.func40, Tryz.ntmps40
  go_wp2_with fail
  refine h.mono ?_
  rintro e w' ⟨rfl, rfl⟩
  go_wp2_with fail
  go_ret
  exact ⟨rfl, rfl⟩
/-- what stands ahead of the ! that ends a chunk, two of them being one; the place of that !; is there one? -/
def chB (p : Nat) (acc : List UInt8) : List UInt8 → List UInt8 × Nat × Bool
  | [] => (acc, p, false)
  | [c] => if c = 33 then (acc, p, true) else (acc ++ [c], p + 1, false)
  | c :: d :: l => if c = 33 then (if d = 33 then chB (p + 2) (acc ++ [33]) l else (acc, p, true)) else chB (p + 1) (acc ++ [c]) (d :: l)
theorem chB_end {s : ByteArray} {q : Nat} {acc : List UInt8} (h : s.size ≤ q) : chB q acc ((sb s).drop q) = (acc, q, false) := by
  rw [List.drop_of_length_le (by rw [sb_len]; exact h)]; rfl
theorem chB_go {s : ByteArray} {q : Nat} {acc : List UInt8} (h : q < s.size) (hc : s[q].toNat ≠ 33) : chB q acc ((sb s).drop q) = chB (q + 1) (acc ++ [s[q]]) ((sb s).drop (q + 1)) := by
  have hc' : s[q] ≠ 33 := fun e => hc (by rw [e]; rfl)
  rw [drop_at h]
  cases (sb s).drop (q + 1) with
  | nil =>
    show (if s[q] = 33 then (acc, q, true) else (acc ++ [s[q]], q + 1, false)) = _
    rw [if_neg hc']; rfl
  | cons d l => rw [chB, if_neg hc']
theorem chB_two {s : ByteArray} {q : Nat} {acc : List UInt8} (h : q + 1 < s.size) (hc : s[q].toNat = 33) (hd : s[q + 1].toNat = 33) : chB q acc ((sb s).drop q) = chB (q + 2) (acc ++ [33]) ((sb s).drop (q + 2)) := by
  rw [drop_at (by omega), drop_at h, chB, if_pos (UInt8.toNat_inj.1 hc), if_pos (UInt8.toNat_inj.1 hd)]
theorem chB_stop {s : ByteArray} {q : Nat} {acc : List UInt8} (h : q < s.size) (hc : s[q].toNat = 33) (hd : lookB s (q + 1) ≠ 33) : chB q acc ((sb s).drop q) = (acc, q, true) := by
  rw [drop_at h]
  rcases Nat.lt_or_ge (q + 1) s.size with h1 | h1
  · rw [drop_at h1, chB, if_pos (UInt8.toNat_inj.1 hc), if_neg]
    intro e
    rw [lookB_at h1, e] at hd
    exact hd rfl
  · rw [List.drop_of_length_le (by rw [sb_len]; exact h1), chB, if_pos (UInt8.toNat_inj.1 hc)]
/-- without the blanks at the end -/
def trimR (l : List UInt8) : List UInt8 := (l.reverse.dropWhile fun c => blankN c.toNat).reverse
theorem trimR_blank {l : List UInt8} {c : UInt8} (h : blankN c.toNat = true) : trimR (l ++ [c]) = trimR l := by
  unfold trimR
  rw [List.reverse_append, List.reverse_singleton, List.singleton_append, List.dropWhile_cons, if_pos h]
theorem trimR_stop {l : List UInt8} {c : UInt8} (h : blankN c.toNat = false) : trimR (l ++ [c]) = l ++ [c] := by
  unfold trimR
  rw [List.reverse_append, List.reverse_singleton, List.singleton_append, List.dropWhile_cons, if_neg (by rw [h]; decide), List.reverse_cons, List.reverse_reverse]
/-- a chunk from a place on: its text, where it begins, the place behind its end, whether it ends -/
def chunkR (s : ByteArray) (p : Nat) : List UInt8 × Nat × Nat × Bool :=
  (trimR (chB (runE blankN s p) [] ((sb s).drop (runE blankN s p))).1, runE blankN s p, (chB (runE blankN s p) [] ((sb s).drop (runE blankN s p))).2.1 + 1, (chB (runE blankN s p) [] ((sb s).drop (runE blankN s p))).2.2)
def chunkV (r : List UInt8 × Nat × Nat × Bool) : Value := .tuple #[.string (mkB r.1), .int .i64 (r.2.1 : Int), .int .i64 (r.2.2.1 : Int), .bool r.2.2.2]
theorem cbZ_at {w : World} {B : Nat} {A : Option Addr} {xs : List UInt8} (h : Rd w B A (cb xs)) {k : Nat} (hk : k < xs.length) : ∃ b off, A = some ⟨b, off, none⟩ ∧ b < B ∧ w.cell? ⟨b, off + k, none⟩ = some (.int .u8 (xs[k].toNat : Int)) := by
  rcases h with h | ⟨b, off, rfl, hb, hc⟩
  · have := congrArg List.length h
    rw [cbC_len] at this
    simp only [List.length_nil] at this
    omega
  · exact ⟨b, off, rfl, hb, hc k _ (by simp [cb, List.getElem?_map, List.getElem?_eq_getElem hk])⟩
end Go.Proofs.YtmdkneollidkfaaGreatDoor.Fl

/-
  The document's words between blanks; what is a token's kind and word; a header.
-/
namespace Go.Proofs.YtmdkneollidkfaaGreatDoor.Fl
open Go.RowKit

/-! ### a row of texts of the call's own -/
def cs_ (l : List (List UInt8)) : List Value := l.map fun x => .string (mkB x)
theorem cs_len (l : List (List UInt8)) : (cs_ l).length = l.length := by simp [cs_]
theorem cs_app (l m : List (List UInt8)) : cs_ (l ++ m) = cs_ l ++ cs_ m := by simp [cs_]
theorem cs_one (l : List (List UInt8)) : ∀ v ∈ cs_ l, v.oneCell' = true := by
  intro v h
  simp only [cs_, List.mem_map] at h
  obtain ⟨c, _, rfl⟩ := h
  rfl
theorem strInfo : (Tryz.prog.info? 9).map (fun i => (i.zero, i.size, i.bytes)) = some (some (.string ⟨#[]⟩), 1, 16) := by kernel_rfl
def OwnS (w : World) (base : Nat) (v : Value) (l : List (List UInt8)) : Prop := w.ownsRow base 9 1 v l.length (cs_ l)
theorem OwnS.below {w w' : World} {base : Nat} {v : Value} {xs : List (List UInt8)} (h : OwnS w base v xs) (hb : Below w.heap.size w w') : OwnS w' base v xs :=
  ⟨h.1, h.2.elim .inl fun ⟨g, cap, cur, hv, hbg, hg, r⟩ => .inr ⟨g, cap, cur, hv, hbg, (hb.block g (lt_of_blkC hg)).trans hg, r⟩⟩
theorem ownS_nil (w : World) (base : Nat) : OwnS w base (.slice none 0 0) [] := World.ownsRow_nil _ _ _ _
theorem wpList_append_s {w : World} {base c : Nat} {A : Option Addr} {xs news : List (List UInt8)} {v : Value} {ops : Array Oper} {rest : List Oper} {o : Oper} {a : Act} {Q : Exit → Act → World → Prop} (hg : o.guard = none) (s x : Operand) (ho : o.op = .call { callee := .builtin .append, args := #[s, x], argTypes := #[22, 22] })
    (hs : a.eval s = v) (hx : a.eval x = .slice A news.length c) (hown : OwnS w base v xs) (hr : Rd w w.heap.size A (cs_ news)) (hA : A = none → news.length = 0) (hl : xs.length ≤ 100000000) (hl2 : news.length ≤ 100000000) (hb : base ≤ w.heap.size)
    (h : ∀ A' ts c' w', Hid (ts = xs ++ news) → Hid (OwnS w' base (.slice A' ts.length c') ts) → Hid (Below base w w' ∧ (∀ k, k < w.heap.size → some k ≠ v.ownBlock → w'.heap[k]? = w.heap[k]?) ∧ ((Value.slice A' ts.length c').ownBlock = v.ownBlock ∨ (Value.slice A' ts.length c').ownBlock = some w.heap.size)) → wpList Tryz.prog ops Q rest (a.put o.dst (.slice A' ts.length c')) w') : wpList Tryz.prog ops Q (o :: rest) a w := by
  obtain ⟨i0, hi, hz0, hz1, hz2⟩ := info_parts strInfo
  refine wpList_append_rd (base := base) (size := 1) (bytes := 16) (n := xs.length) (m := news.length) (c := c) (v := v) (xs := cs_ xs) (news := cs_ news) hg s x ho Tryz.underlying22 hi hz0 hz1 hz2 rfl (by decide) hs hx hown hr (by rw [cs_len, Nat.mul_one]) hA (cs_one news) (by unfold maxLen; omega) (by omega) hb ?_
  intro v' w' happ
  obtain ⟨A', c', rfl, _, _⟩ := happ.slice
  have e : xs.length + news.length = (xs ++ news).length := by simp
  have ho := happ.own
  have hat := happ.at_
  rw [e, show cs_ xs ++ cs_ news = cs_ (xs ++ news) from (cs_app _ _).symm] at ho
  rw [e] at hat ⊢
  exact h A' (xs ++ news) c' w' (Lib.hid rfl) (Lib.hid ho) (Lib.hid ⟨(Below.refl _ _).grown happ.grown hb (fun j hj => (World.ownsRow.lt hown j hj).1), happ.grown.block, hat⟩)
theorem ownS_rd {w : World} {base n c : Nat} {A : Option Addr} {xs : List (List UInt8)} (h : OwnS w base (.slice A n c) xs) : Rd w w.heap.size A (cs_ xs) ∧ (A = none → xs.length = 0) ∧ n = xs.length ∧ n ≤ c := by
  rcases h.2 with ⟨e1, e2⟩ | ⟨g, cap, cur, e1, hb, hg, hc, _, _, ht⟩
  · injection e1 with e1 e3 e4
    rw [List.eq_nil_of_length_eq_zero e2]
    exact ⟨.inl rfl, fun _ => rfl, e3, by omega⟩
  · injection e1 with e1 e3 e4
    subst e1
    refine ⟨.inr ⟨g, 0, rfl, lt_of_blkC hg, fun j v hj => ?_⟩, (fun h => by cases h), e3, by omega⟩
    have hjl : j < xs.length * 1 := by
      rcases Nat.lt_or_ge j (cs_ xs).length with h1 | h1
      · rwa [cs_len, ← Nat.mul_one xs.length] at h1
      · rw [List.getElem?_eq_none h1] at hj; cases hj
    rw [Nat.zero_add, cell_of_row w g j _ _ _ hg, ← hj, ← ht, List.getElem?_take, if_pos (by omega)]
    simp
theorem rd_oneS (w : World) (x : ByteArray) : Rd (w.alloc (.cells #[.string x] 9)) (w.alloc (.cells #[.string x] 9)).heap.size (some ⟨w.heap.size, 0, none⟩) (cs_ [sb x]) := by
  refine .inr ⟨w.heap.size, 0, by rfl, by rw [World.size_alloc]; omega, fun j v hj => ?_⟩
  have hj0 : j = 0 := by
    rcases j with _ | j
    · rfl
    · simp [cs_] at hj
  subst hj0
  rw [Nat.zero_add, cell_of_row _ _ _ _ _ _ (heap_alloc_new w _)]
  rw [← hj]
  simp only [cs_, List.map_cons, List.map_nil, List.getElem?_cons_zero]
  rw [show mkB (sb x) = x from mk_sb x]
  rfl
/-! ### words -/
def wordsA (cur : List UInt8) : List UInt8 → List (List UInt8)
  | [] => if cur = [] then [] else [cur]
  | c :: l => if blankN c.toNat = true then (if cur = [] then wordsA [] l else cur :: wordsA [] l) else wordsA (cur ++ [c]) l
theorem wordsA_end {s : ByteArray} {cur : List UInt8} : wordsA cur ((sb s).drop s.size) = if cur = [] then [] else [cur] := by
  rw [List.drop_of_length_le (by rw [sb_len]; exact Nat.le_refl _)]; rfl
theorem wordsA_go {s : ByteArray} {q : Nat} {cur : List UInt8} (h : q < s.size) : wordsA cur ((sb s).drop q) = if blankN s[q].toNat = true then (if cur = [] then wordsA [] ((sb s).drop (q + 1)) else cur :: wordsA [] ((sb s).drop (q + 1))) else wordsA (cur ++ [s[q]]) ((sb s).drop (q + 1)) := by
  rw [drop_at h, wordsA]
theorem mid_more {s : ByteArray} {f q : Nat} (hf : f ≤ q) (h : q < s.size) : midL s f (q + 1) = midL s f q ++ [s[q]] := by
  unfold midL
  rw [sb_take s q h, List.drop_append_of_le_length]
  rw [List.length_take, sb_len]; omega
theorem mid_nil {s : ByteArray} {f q : Nat} (hq : q ≤ s.size) (h : f ≤ q) : midL s f q = [] ↔ f = q := by
  have := midL_len s (a := f) hq
  constructor
  · intro e
    rw [e] at this
    simp only [List.length_nil] at this
    omega
  · rintro rfl
    exact mid_same s f
def WordsPost (s : ByteArray) (w : World) (e : Ending) (w' : World) : Prop :=
  Below w.heap.size w w' ∧ ∃ A c, e = .returned (.slice A (wordsA [] (sb s)).length c) ∧ OwnS w' w.heap.size (.slice A (wordsA [] (sb s)).length c) (wordsA [] (sb s))
end Go.Proofs.YtmdkneollidkfaaGreatDoor.Fl
