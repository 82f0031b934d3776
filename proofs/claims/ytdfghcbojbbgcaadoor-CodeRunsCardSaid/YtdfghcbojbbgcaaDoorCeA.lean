/-
  A line of any instruction: its words in memory.
-/
import Derived.Test.YtdfghcbojbbgcaaDoorCdZ
import Derived.Test.YtdfghcbojbbgcaaDoorCdW
namespace Go.Proofs.YtdfghcbojbbgcaaDoor.Fl
open Go.RowKit

theorem wpList_append_t {w : World} {base c : Nat} {A : Option Addr} {xs news : List ByteArray} {v : Value} {ops : Array Oper} {rest : List Oper} {o : Oper} {a : Act} {Q : Exit → Act → World → Prop} (hg : o.guard = none) (s x : Operand) (ho : o.op = .call { callee := .builtin .append, args := #[s, x], argTypes := #[74, 74] })
    (hs : a.eval s = v) (hx : a.eval x = .slice A news.length c) (hown : OwnS w base v xs) (hr : Rd w w.heap.size A (csC news)) (hA : A = none → news.length = 0) (hl : xs.length ≤ 100000000) (hl2 : news.length ≤ 100000000) (hb : base ≤ w.heap.size)
    (h : ∀ A' ts c' w', Hid (ts = xs ++ news) → Hid (OwnS w' base (.slice A' ts.length c') ts) → Hid (Below base w w' ∧ (∀ k, k < w.heap.size → some k ≠ v.ownBlock → w'.heap[k]? = w.heap[k]?) ∧ ((Value.slice A' ts.length c').ownBlock = v.ownBlock ∨ (Value.slice A' ts.length c').ownBlock = some w.heap.size)) → wpList Tryd.prog ops Q rest (a.put o.dst (.slice A' ts.length c')) w') : wpList Tryd.prog ops Q (o :: rest) a w := by
  obtain ⟨i0, hi, hz0, hz1, hz2⟩ := info_parts strinfoC
  refine wpList_append_rd (base := base) (size := 1) (bytes := 16) (n := xs.length) (m := news.length) (c := c) (v := v) (xs := csC xs) (news := csC news) hg s x ho Tryd.underlying74 hi hz0 hz1 hz2 rfl (by decide) hs hx hown hr (csC_len _) hA (csC_one news) (by unfold maxLen; omega) (by omega) hb ?_
  intro v' w' happ
  obtain ⟨A', c', rfl, _, _⟩ := happ.slice
  have e : xs.length + news.length = (xs ++ news).length := by simp
  have ho := happ.own
  have hat := happ.at_
  rw [e, show csC xs ++ csC news = csC (xs ++ news) from (csC_app _ _).symm] at ho
  rw [e] at hat ⊢
  exact h A' (xs ++ news) c' w' (Lib.hid rfl) (Lib.hid ho) (Lib.hid ⟨(Below.refl _ _).grown happ.grown hb (fun j hj => (World.ownsRow.lt hown j hj).1), happ.grown.block, hat⟩)
/-- a line's box, its form, its words -/
structure LnAt (w0 w : World) (X F : Nat) (cx cf : Array Value) (v : Value) (l : List ByteArray) : Prop where
  bel : Below w0.heap.size w0 w
  box : w.heap[X]? = some (.cells cx 34 (0, 0))
  frm : w.heap[F]? = some (.cells cf 52 (0, 0))
  own : OwnS w w0.heap.size v l
  nx : some X ≠ v.ownBlock
  nf : some F ≠ v.ownBlock
theorem LnAt.below {w0 w w' : World} {X F : Nat} {cx cf : Array Value} {v : Value} {l : List ByteArray} (h : LnAt w0 w X F cx cf v l) (hb : Below w.heap.size w w') : LnAt w0 w' X F cx cf v l :=
  ⟨h.bel.trans (hb.mono h.bel.size), (hb.block _ (lt_of_blkC h.box)).trans h.box, (hb.block _ (lt_of_blkC h.frm)).trans h.frm, h.own.keep (fun j hj => hb.block _ (World.ownsRow.lt h.own j hj).2), h.nx, h.nf⟩
theorem LnAt.app {w0 w w' : World} {X F : Nat} {cx cf : Array Value} {v v' : Value} {l l' : List ByteArray} {o : Obj} (h : LnAt w0 w X F cx cf v l) (ho : OwnS w' w0.heap.size v' l')
    (hb : Below w0.heap.size (w.alloc o) w' ∧ (∀ k, k < (w.alloc o).heap.size → some k ≠ v.ownBlock → w'.heap[k]? = (w.alloc o).heap[k]?) ∧ (v'.ownBlock = v.ownBlock ∨ v'.ownBlock = some (w.alloc o).heap.size)) : LnAt w0 w' X F cx cf v' l' := by
  obtain ⟨hb1, hb2, hb3⟩ := hb
  have hX := lt_of_blkC h.box
  have hF := lt_of_blkC h.frm
  rw [World.size_alloc] at hb2 hb3
  refine ⟨(h.bel.alloc h.bel.size o).trans hb1, ?_, ?_, ho, ?_, ?_⟩
  · exact (hb2 X (by omega) h.nx).trans ((Below.heap_alloc _ _ _ hX).trans h.box)
  · exact (hb2 F (by omega) h.nf).trans ((Below.heap_alloc _ _ _ hF).trans h.frm)
  · rcases hb3 with e | e
    · rw [e]; exact h.nx
    · rw [e]; intro e2; injection e2 with e2; omega
  · rcases hb3 with e | e
    · rw [e]; exact h.nf
    · rw [e]; intro e2; injection e2 with e2; omega
theorem itoaG (n : Int) (h0 : -9223372036854775808 ≤ n) (h1 : n ≤ 9223372036854775807) (w : World) (hE : EnvC w) :
    Calls Tryd.prog 25 #[.int .i64 n] w fun e w' => e = .returned (.string ⟨(Lib.itoa n).toArray⟩) ∧ Below w.heap.size w w' :=
  (Tryd.strconv_Itoa n h0 h1 w hE).mono fun e w' ⟨he, k, os, hw⟩ => ⟨he, by
    rw [hw]
    first
      | exact Lib.below_grow _ _ (Nat.le_refl _) _ _
      | exact below_grow _ _ (Nat.le_refl _) _ _⟩
theorem ends_digits (u : Nat) : ends (Lib.decDigits u) = 0 := by
  unfold ends
  rw [List.countP_eq_zero, Lib.decDigits_eq]
  intro b hb
  rw [List.mem_map] at hb
  obtain ⟨t, _, rfl⟩ := hb
  have hm : ∀ d, d < 10 → ¬ (48 + UInt8.ofNat d = 10) := by decide
  simp [Lib.dg]
  exact hm _ (Nat.mod_lt _ (by decide))
theorem ends_itoa (n : Int) : ends (Lib.itoa n) = 0 := by
  unfold Lib.itoa
  split
  · show ends ([45] ++ Lib.decDigits n.natAbs) = 0
    rw [ends_app, ends_digits]
    rfl
  · exact ends_digits _
theorem ends_line {q : Nat} {x : Ins} : ends (lineR q x) = 1 := by
  unfold lineR
  rw [ends_app, ends_join _ (fun w hw => ?_)]
  · rfl
  · unfold wordsR at hw
    split at hw
    · next r hr =>
      rw [List.mem_append, List.mem_append] at hw
      rcases hw with (hw | hw) | hw
      · simp only [List.mem_cons, List.not_mem_nil, or_false] at hw
        rcases hw with rfl | rfl
        · exact ends_itoa _
        · exact ends_nm hr
      · split at hw
        · obtain rfl := List.mem_singleton.1 hw
          exact ends_itoa _
        · cases hw
      · split at hw
        · obtain rfl := List.mem_singleton.1 hw
          exact ends_itoa _
        · cases hw
    · cases hw
end Go.Proofs.YtdfghcbojbbgcaaDoor.Fl

