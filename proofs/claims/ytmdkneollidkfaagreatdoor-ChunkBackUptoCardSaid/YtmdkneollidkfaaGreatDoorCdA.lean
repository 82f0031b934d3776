/-
  Instructions: bytes and instructions in memory; the table of what they are like.
-/
import Derived.Test.YtmdkneollidkfaaGreatDoorPMem
import Derived.Test.YtmdkneollidkfaaGreatDoorRows
import Derived.ChangeArms
import Derived.OpenShut
import Derived.Lib.LaidTab
import Derived.MakeChecks
import Derived.Lib.LaidU8
namespace Go.Proofs.YtmdkneollidkfaaGreatDoor.Fl
open Go.RowKit Go.ChangeShapes

theorem lt_of_blkC {w : World} {k : Nat} {o : Obj} (h : w.heap[k]? = some o) : k < w.heap.size := by
  rcases Nat.lt_or_ge k w.heap.size with h1 | h1
  · exact h1
  · rw [Array.getElem?_eq_none h1] at h; cases h
/-! ### a row of bytes of the call's own -/
theorem u8infoC : (Tryz.prog.info? 5).map (fun i => (i.zero, i.size, i.bytes)) = some (some (.int .u8 0), 1, 1) := by kernel_rfl
def OwnB (w : World) (base : Nat) (v : Value) (l : List UInt8) : Prop := w.ownsRow base 5 1 v l.length (cb l)
theorem cbC_len (l : List UInt8) : (cb l).length = l.length := by simp [cb]
theorem cbC_app (l m : List UInt8) : cb (l ++ m) = cb l ++ cb m := by simp [cb]
theorem cbC_one (l : List UInt8) : ∀ v ∈ cb l, v.oneCell' = true := by
  intro v h
  simp only [cb, List.mem_map] at h
  obtain ⟨c, _, rfl⟩ := h
  rfl
theorem OwnB.below {w w' : World} {base : Nat} {v : Value} {xs : List UInt8} (h : OwnB w base v xs) (hb : Below w.heap.size w w') : OwnB w' base v xs :=
  ⟨h.1, h.2.elim .inl fun ⟨g, cap, cur, hv, hbg, hg, r⟩ => .inr ⟨g, cap, cur, hv, hbg, (hb.block g (lt_of_blkC hg)).trans hg, r⟩⟩
theorem ownB_nil (w : World) (base : Nat) : OwnB w base (.slice none 0 0) [] := World.ownsRow_nil _ _ _ _
theorem wpList_append_u {w : World} {base c : Nat} {A : Option Addr} {xs news : List UInt8} {v : Value} {ops : Array Oper} {rest : List Oper} {o : Oper} {a : Act} {Q : Exit → Act → World → Prop} (hg : o.guard = none) (s x : Operand) (ho : o.op = .call { callee := .builtin .append, args := #[s, x], argTypes := #[79, 79] })
    (hs : a.eval s = v) (hx : a.eval x = .slice A news.length c) (hown : OwnB w base v xs) (hr : Rd w w.heap.size A (cb news)) (hA : A = none → news.length = 0) (hl : xs.length ≤ 100000000) (hl2 : news.length ≤ 100000000) (hb : base ≤ w.heap.size)
    (h : ∀ A' ts c' w', Hid (ts = xs ++ news) → Hid (OwnB w' base (.slice A' ts.length c') ts) → Hid (Below base w w' ∧ (∀ k, k < w.heap.size → some k ≠ v.ownBlock → w'.heap[k]? = w.heap[k]?) ∧ ((Value.slice A' ts.length c').ownBlock = v.ownBlock ∨ (Value.slice A' ts.length c').ownBlock = some w.heap.size)) → wpList Tryz.prog ops Q rest (a.put o.dst (.slice A' ts.length c')) w') : wpList Tryz.prog ops Q (o :: rest) a w := by
  obtain ⟨i0, hi, hz0, hz1, hz2⟩ := info_parts u8infoC
  refine wpList_append_rd (base := base) (size := 1) (bytes := 1) (n := xs.length) (m := news.length) (c := c) (v := v) (xs := cb xs) (news := cb news) hg s x ho Tryz.underlying79 hi hz0 hz1 hz2 rfl (by decide) hs hx hown hr (by rw [cbC_len, Nat.mul_one]) hA (cbC_one news) (by unfold maxLen; omega) (by omega) hb ?_
  intro v' w' happ
  obtain ⟨A', c', rfl, _, _⟩ := happ.slice
  have e : xs.length + news.length = (xs ++ news).length := by simp
  have ho := happ.own
  have hat := happ.at_
  rw [e, show cb xs ++ cb news = cb (xs ++ news) from (cbC_app _ _).symm] at ho
  rw [e] at hat ⊢
  exact h A' (xs ++ news) c' w' (Lib.hid rfl) (Lib.hid ho) (Lib.hid ⟨(Below.refl _ _).grown happ.grown hb (fun j hj => (World.ownsRow.lt hown j hj).1), happ.grown.block, hat⟩)
theorem ownB_rd {w : World} {base n c : Nat} {A : Option Addr} {xs : List UInt8} (h : OwnB w base (.slice A n c) xs) : Rd w w.heap.size A (cb xs) ∧ (A = none → xs.length = 0) ∧ n = xs.length ∧ n ≤ c := by
  rcases h.2 with ⟨e1, e2⟩ | ⟨g, cap, cur, e1, hb, hg, hc, _, _, ht⟩
  · injection e1 with e1 e3 e4
    rw [List.eq_nil_of_length_eq_zero e2]
    exact ⟨.inl rfl, fun _ => rfl, e3, by omega⟩
  · injection e1 with e1 e3 e4
    subst e1
    refine ⟨.inr ⟨g, 0, rfl, lt_of_blkC hg, fun j v hj => ?_⟩, (fun h => by cases h), e3, by omega⟩
    have hjl : j < xs.length * 1 := by
      rcases Nat.lt_or_ge j (cb xs).length with h1 | h1
      · rwa [cbC_len, ← Nat.mul_one xs.length] at h1
      · rw [List.getElem?_eq_none h1] at hj; cases hj
    rw [Nat.zero_add, cell_of_row w g j _ _ _ hg, ← hj, ← ht, List.getElem?_take, if_pos (by omega)]
    simp
theorem rd_oneB (w : World) (c : UInt8) : Rd (w.alloc (.cells #[.int .u8 (c.toNat : Int)] 5)) (w.alloc (.cells #[.int .u8 (c.toNat : Int)] 5)).heap.size (some ⟨w.heap.size, 0, none⟩) (cb [c]) := by
  refine .inr ⟨w.heap.size, 0, rfl, by rw [World.size_alloc]; omega, fun j v hj => ?_⟩
  have hj0 : j = 0 := by
    rcases j with _ | j
    · rfl
    · simp [cb] at hj
  subst hj0
  rw [Nat.zero_add, cell_of_row _ _ _ _ _ _ (heap_alloc_new w _)]
  exact hj
/-! ### the table -/
abbrev FormR := List UInt8 × Int × Int × Int × Int × Int × Int
def nm (s : List Nat) : List UInt8 := s.map UInt8.ofNat
/-- name; bytes of A, its least; bytes of B, its least; takes, puts -/
def formsL : List FormR := [
  ([80, 117, 115, 104, 83, 101, 108, 102], 0, 0, 0, 0, 0, 1), ([80, 117, 115, 104, 78, 105, 108], 0, 0, 0, 0, 0, 1), ([80, 117, 115, 104, 84, 114, 117, 101], 0, 0, 0, 0, 0, 1), ([80, 117, 115, 104, 70, 97, 108, 115, 101], 0, 0, 0, 0, 0, 1),
  ([80, 117, 115, 104, 83, 109, 97, 108, 108], 1, -128, 0, 0, 0, 1), ([80, 117, 115, 104, 84, 101, 109, 112], 1, 0, 0, 0, 0, 1), ([80, 117, 115, 104, 70, 105, 101, 108, 100], 1, 0, 0, 0, 0, 1), ([80, 117, 115, 104, 76, 105, 116], 1, 0, 0, 0, 0, 1),
  ([83, 116, 111, 114, 101, 84, 101, 109, 112], 1, 0, 0, 0, 1, 1), ([83, 116, 111, 114, 101, 70, 105, 101, 108, 100], 1, 0, 0, 0, 1, 1), ([80, 111, 112], 0, 0, 0, 0, 1, 0), ([68, 117, 112], 0, 0, 0, 0, 1, 2),
  ([83, 101, 110, 100], 1, 0, 1, 0, 1, 1), ([83, 117, 112, 101, 114, 83, 101, 110, 100], 1, 0, 1, 0, 1, 1), ([74, 117, 109, 112], 2, -32768, 0, 0, 0, 0), ([74, 117, 109, 112, 84, 114, 117, 101], 2, -32768, 0, 0, 1, 0), ([74, 117, 109, 112, 70, 97, 108, 115, 101], 2, -32768, 0, 0, 1, 0),
  ([66, 108, 111, 99, 107], 1, 0, 2, 0, 0, 1), ([82, 101, 116, 117, 114, 110], 0, 0, 0, 0, 1, 0), ([69, 110, 100], 0, 0, 0, 0, 1, 0)]
def formD {H : Type} (r : FormR) : DataW H := .agg [.lit (.string r.1), .agg [.lit (.int .i64 r.2.1), .lit (.int .i64 r.2.2.1)], .agg [.lit (.int .i64 r.2.2.2.1), .lit (.int .i64 r.2.2.2.2.1)], .lit (.int .i64 r.2.2.2.2.2.1), .lit (.int .i64 r.2.2.2.2.2.2)]
def formV (r : FormR) : List Value := [.string ⟨r.1.toArray⟩, .int .i64 r.2.1, .int .i64 r.2.2.1, .int .i64 r.2.2.2.1, .int .i64 r.2.2.2.2.1, .int .i64 r.2.2.2.2.2.1, .int .i64 r.2.2.2.2.2.2]
section
variable {H : Type} {enc : TypeId × Value → H} {w : World} {base : Nat} {spare : Nat → Bool} {held : Bool} {fuel : Nat} {cs : List Value} {p : List MemPlace}
end
end Go.Proofs.YtmdkneollidkfaaGreatDoor.Fl
