/-
  Instructions: Check's reach, of the laws' fixed code.
-/
import Derived.Test.YtdfghcbojbbgcaaDoorCdO
namespace Go.Proofs.YtdfghcbojbbgcaaDoor.Fl
open Go.RowKit Go.Maps

def cz (l : List Int) : List Value := l.map fun x => .int .i64 x
theorem cz_len (l : List Int) : (cz l).length = l.length * 1 := by simp [cz]
theorem cz_app (l m : List Int) : cz (l ++ m) = cz l ++ cz m := by simp [cz]
theorem cz_one (l : List Int) : ∀ v ∈ cz l, v.oneCell' = true := by
  intro v h
  simp only [cz, List.mem_map] at h
  obtain ⟨x, _, rfl⟩ := h
  rfl
theorem intinfoC : (Tryd.prog.info? 3).map (fun i => (i.zero, i.size, i.bytes)) = some (some (.int .i64 0), 1, 8) := by kernel_rfl
def OwnZ (w : World) (base : Nat) (v : Value) (l : List Int) : Prop := w.ownsRow base 3 1 v l.length (cz l)
theorem OwnZ.keep {w w' : World} {base : Nat} {v : Value} {xs : List Int} (h : OwnZ w base v xs) (hb : ∀ j, v.ownBlock = some j → w'.heap[j]? = w.heap[j]?) : OwnZ w' base v xs :=
  ⟨h.1, h.2.elim .inl fun ⟨g, cap, cur, hv, hbg, hg, r⟩ => .inr ⟨g, cap, cur, hv, hbg, (hb g (by rw [hv]; rfl)).trans hg, r⟩⟩
theorem ownZ_nil (w : World) (base : Nat) : OwnZ w base (.slice none 0 0) [] := World.ownsRow_nil _ _ _ _
theorem wpList_append_z {w : World} {base c : Nat} {A : Option Addr} {xs news : List Int} {v : Value} {ops : Array Oper} {rest : List Oper} {o : Oper} {a : Act} {Q : Exit → Act → World → Prop} (hg : o.guard = none) (s x : Operand) (ho : o.op = .call { callee := .builtin .append, args := #[s, x], argTypes := #[46, 46] })
    (hs : a.eval s = v) (hx : a.eval x = .slice A news.length c) (hown : OwnZ w base v xs) (hr : Rd w w.heap.size A (cz news)) (hA : A = none → news.length = 0) (hl : xs.length ≤ 100000000) (hl2 : news.length ≤ 100000000) (hb : base ≤ w.heap.size)
    (h : ∀ A' ts c' w', Hid (ts = xs ++ news) → Hid (OwnZ w' base (.slice A' ts.length c') ts) → Hid (Below base w w' ∧ (∀ k, k < w.heap.size → some k ≠ v.ownBlock → w'.heap[k]? = w.heap[k]?) ∧ ((Value.slice A' ts.length c').ownBlock = v.ownBlock ∨ (Value.slice A' ts.length c').ownBlock = some w.heap.size)) → wpList Tryd.prog ops Q rest (a.put o.dst (.slice A' ts.length c')) w') : wpList Tryd.prog ops Q (o :: rest) a w := by
  obtain ⟨i0, hi, hz0, hz1, hz2⟩ := info_parts intinfoC
  refine wpList_append_rd (base := base) (size := 1) (bytes := 8) (n := xs.length) (m := news.length) (c := c) (v := v) (xs := cz xs) (news := cz news) hg s x ho Tryd.underlying46 hi hz0 hz1 hz2 rfl (by decide) hs hx hown hr (cz_len _) hA (cz_one news) (by unfold maxLen; omega) (by omega) hb ?_
  intro v' w' happ
  obtain ⟨A', c', rfl, _, _⟩ := happ.slice
  have e : xs.length + news.length = (xs ++ news).length := by simp
  have ho := happ.own
  have hat := happ.at_
  rw [e, show cz xs ++ cz news = cz (xs ++ news) from (cz_app _ _).symm] at ho
  rw [e] at hat ⊢
  exact h A' (xs ++ news) c' w' (Lib.hid rfl) (Lib.hid ho) (Lib.hid ⟨(Below.refl _ _).grown happ.grown hb (fun j hj => (World.ownsRow.lt hown j hj).1), happ.grown.block, hat⟩)
theorem rd_oneZi (w : World) (x : Int) : Rd (w.alloc (.cells #[.int .i64 x] 3)) (w.alloc (.cells #[.int .i64 x] 3)).heap.size (some ⟨w.heap.size, 0, none⟩) (cz [x]) := by
  refine .inr ⟨w.heap.size, 0, rfl, by rw [World.size_alloc]; omega, fun j v hj => ?_⟩
  have hj0 : j = 0 := by
    rcases j with _ | j
    · rfl
    · simp [cz] at hj
  subst hj0
  rw [Nat.zero_add, cell_of_row _ _ _ _ _ _ (heap_alloc_new w _)]
  exact hj
/-- the checker, its maps and its list in memory -/
structure CkS (w0 w : World) (base C c M1 M2 : Nat) (A : Option Addr) (n : Nat) (D : DataW Unit) (v : Value) (os : List Int) (most : Int) : Prop where
  bel : Below base w0 w
  blk : CkB w C c M1 M2 A v most
  m1 : OwnM w M1 2 pD2
  m2 : OwnM w M2 n D
  row : OwnZ w base v os
  far : ∀ j, v.ownBlock = some j → j ≠ C ∧ j ≠ M1 ∧ j ≠ M2
  lo : base ≤ C ∧ base ≤ M1 ∧ base ≤ M2 ∧ base ≤ w0.heap.size
  ne : C ≠ M1 ∧ C ≠ M2 ∧ M1 ≠ M2
theorem CkS.below {w0 w w' : World} {base C c M1 M2 n : Nat} {A : Option Addr} {D : DataW Unit} {v : Value} {os : List Int} {most : Int} (h : CkS w0 w base C c M1 M2 A n D v os most) (hb : Below w.heap.size w w') : CkS w0 w' base C c M1 M2 A n D v os most :=
  ⟨h.bel.trans (hb.mono (Nat.le_trans h.lo.2.2.2 h.bel.size)), (hb.block _ (lt_of_blkC h.blk)).trans h.blk, h.m1.keep (hb.block _ h.m1.lt), h.m2.keep (hb.block _ h.m2.lt), h.row.keep (fun j hj => hb.block _ (World.ownsRow.lt h.row j hj).2), h.far, h.lo, h.ne⟩
theorem isIn_fix {w0 w : World} {base C c M1 M2 n : Nat} {A : Option Addr} {D : DataW Unit} {v : Value} {os : List Int} {most : Int} (h : CkS w0 w base C c M1 M2 A n D v os most) {at_ : Int} (hat : at_ = 0 ∨ at_ = 2) :
    Calls Tryd.prog 30 #[.pointer (some ⟨C, 0, none⟩), .int .i64 at_, .int .i64 0] w fun e w' => e = .returned (.bool true) ∧ w = w' := by
  have fC := eight_cellsC h.blk
  have HM := Lib.hid h.m1
  clear h
  rcases hat with rfl | rfl
  · go_enter Tryd.func30, Tryd.ntmps30
    go_wp2_with (at_lookup; refine wpList_lookup_own_ok_int _ rfl _ _ 45 rfl 3 3 .i64 keyedIC Tryd.underlying45 Tryd.underlying3 (zeroIC _) M1 2 pD2 rfl HM.out _ _ rfl (keyIC (by decide) (by decide)) ?_; intro cc hcat hwc; obtain rfl : cc = 0 := (by have h1 : pD2.atKey (.int .i64 0) (.lit (.int .i64 0)) = .lit (.int .i64 0) := rfl; rw [h1] at hcat; injection hcat with hcat; injection hcat with _ hcat; exact hcat.symm); rw [show Maps.has pD2 (.int .i64 0) = true from rfl])
    go_ret
    exact ⟨rfl, rfl⟩
  · go_enter Tryd.func30, Tryd.ntmps30
    go_wp2_with (at_lookup; refine wpList_lookup_own_ok_int _ rfl _ _ 45 rfl 3 3 .i64 keyedIC Tryd.underlying45 Tryd.underlying3 (zeroIC _) M1 2 pD2 rfl HM.out _ _ rfl (keyIC (by decide) (by decide)) ?_; intro cc hcat hwc; obtain rfl : cc = 0 := (by have h1 : pD2.atKey (.int .i64 2) (.lit (.int .i64 0)) = .lit (.int .i64 0) := rfl; rw [h1] at hcat; injection hcat with hcat; injection hcat with _ hcat; exact hcat.symm); rw [show Maps.has pD2 (.int .i64 2) = true from rfl])
    go_ret
    exact ⟨rfl, rfl⟩
end Go.Proofs.YtdfghcbojbbgcaaDoor.Fl

