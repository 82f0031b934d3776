/-
  Events: the event that a line means.
-/
import Derived.Test.YtlmelfakmllinaaEvQ
namespace Go.Proofs.Ytlmelfakmllinaa.Fl
open Go.RowKit

/-- what a line says of an event -/
def canE (x : Ev) : Ev := if x.kd = 1 then ⟨1, x.bs, []⟩ else if x.kd = 2 then ⟨2, [], x.nm⟩ else ⟨3, [], []⟩
def outP : List UInt8 := [111, 117, 116, 32]
def fauP : List UInt8 := [102, 97, 117, 108, 116, 32]
theorem cut_yes (p q : List UInt8) : Lib.hasPrefix (p ++ q) p = true ∧ Lib.trimPrefix (p ++ q) p = q := by
  have h : Lib.hasPrefix (p ++ q) p = true := by unfold Lib.hasPrefix; rw [List.isPrefixOf_iff_prefix]; exact List.prefix_append ..
  refine ⟨h, ?_⟩
  unfold Lib.trimPrefix
  rw [if_pos h]
  simp
theorem cut_no {s p : List UInt8} (h : Lib.hasPrefix s p = false) : Lib.trimPrefix s p = s := by
  unfold Lib.trimPrefix
  rw [if_neg (by rw [h]; decide)]
theorem cutP_yes (p q : List UInt8) (w : World) : Calls Try.prog 41 #[.string ⟨(p ++ q).toArray⟩, .string ⟨p.toArray⟩] w fun e w' => e = .returned (.tuple #[.string ⟨q.toArray⟩, .bool true]) ∧ w = w' :=
  (Try.strings_CutPrefix ⟨(p ++ q).toArray⟩ ⟨p.toArray⟩ w).mono fun e w' h => ⟨by
    have h1 := h.1
    rw [show (⟨(p ++ q).toArray⟩ : ByteArray).data.toList = p ++ q from rfl, show (⟨p.toArray⟩ : ByteArray).data.toList = p from rfl, (cut_yes p q).1, (cut_yes p q).2] at h1
    exact h1, h.2.symm⟩
theorem cutP_no (s p : List UInt8) (hp : Lib.hasPrefix s p = false) (w : World) : Calls Try.prog 41 #[.string ⟨s.toArray⟩, .string ⟨p.toArray⟩] w fun e w' => e = .returned (.tuple #[.string ⟨s.toArray⟩, .bool false]) ∧ w = w' :=
  (Try.strings_CutPrefix ⟨s.toArray⟩ ⟨p.toArray⟩ w).mono fun e w' h => ⟨by
    have h1 := h.1
    rw [show (⟨s.toArray⟩ : ByteArray).data.toList = s from rfl, show (⟨p.toArray⟩ : ByteArray).data.toList = p from rfl, hp, cut_no hp] at h1
    exact h1, h.2.symm⟩
theorem mea_result {W : World} {C : Nat} {v0 v1 v2 : Value} {a : Array Value} (h : W.heap[C]? = some (.cells #[v0, v1, v2] 45 (0, 0))) (h2 : a[2]?.getD undef = .pointer (some ⟨C, 0, none⟩)) :
    (results Try.f35 a).run Try.prog W = .ok (.agg #[v0, v1, v2]) W := by
  obtain ⟨c0, c1, c2, _⟩ := cells3E h
  simp [results, Try.results35, go_sem, h2, c0, c1, c2]
theorem set3E {w : World} {C : Nat} {a0 a1 a2 : Value} {T : TypeId} (h : w.heap[C]? = some (.cells #[a0, a1, a2] T (0, 0))) (v0 v1 v2 : Value) :
    (((w.setCell ⟨C, 0, none⟩ v0).setCell ⟨C, 1, none⟩ v1).setCell ⟨C, 2, none⟩ v2).heap[C]? = some (.cells #[v0, v1, v2] T (0, 0)) :=
  heap_setCell_same _ C 2 _ _ v2 (heap_setCell_same _ C 1 _ _ v1 (heap_setCell_same w C 0 _ _ v0 h))
theorem below3E {w0 w : World} {C : Nat} (h : Below w0.heap.size w0 w) (hC : w0.heap.size ≤ C) (v0 v1 v2 : Value) :
    Below w0.heap.size w0 (((w.setCell ⟨C, 0, none⟩ v0).setCell ⟨C, 1, none⟩ v1).setCell ⟨C, 2, none⟩ v2) :=
  ((h.setCell (p := ⟨C, 0, none⟩) hC _).setCell (p := ⟨C, 1, none⟩) hC _).setCell (p := ⟨C, 2, none⟩) hC _
theorem own3E {w : World} {base C : Nat} {v : Value} {xs : List UInt8} (h : Own w base v xs) (hC : C < base) (v0 v1 v2 : Value) :
    Own (((w.setCell ⟨C, 0, none⟩ v0).setCell ⟨C, 1, none⟩ v1).setCell ⟨C, 2, none⟩ v2) base v xs :=
  ⟨h.1, h.2.elim .inl fun ⟨g, cap, cur, hv, hbg, hg, r⟩ => .inr ⟨g, cap, cur, hv, hbg, by
    have hn : g ≠ C := by omega
    rw [Below.heap_setCell _ ⟨C, 2, none⟩ v2 g hn, Below.heap_setCell _ ⟨C, 1, none⟩ v1 g hn, Below.heap_setCell _ ⟨C, 0, none⟩ v0 g hn]
    exact hg, r⟩⟩
def MeantPost (y : Ev) (w : World) (e : Ending) (w' : World) : Prop :=
  ∃ A c, e = .returned (.agg #[.int .i64 y.kd, .slice A y.bs.length c, .string ⟨y.nm.toArray⟩]) ∧ Own w' w.heap.size (.slice A y.bs.length c) y.bs ∧ Below w.heap.size w w'
set_option maxRecDepth 100000 in
set_option maxHeartbeats 4000000 in
theorem meant_out (bs : List UInt8) (w : World) (hl : bs.length ≤ 1000) :
    Calls Try.prog 35 #[.string ⟨(outP ++ quoL bs).toArray⟩] w (MeantPost ⟨1, bs, []⟩ w) := by
  have hw0 := heap_alloc_new w (.cells #[.int .i64 0, .slice none 0 0, .string ⟨#[]⟩] 45)
  have hb0 : Below w.heap.size w (w.alloc (.cells #[.int .i64 0, .slice none 0 0, .string ⟨#[]⟩] 45)) := (Below.refl _ _).alloc (Nat.le_refl _) _
  have HB0 := Lib.hid hb0
  clear hb0
  go_enter Try.func35, Try.ntmps35
  go_upto_region 1 with fail
  generalize w.alloc (.cells #[.int .i64 0, .slice none 0 0, .string ⟨#[]⟩] 45) = w0 at *
  have hcp := cutP_yes outP (quoL bs) w0
  have huq := unquoted_any bs w0 hl
  have hlt := lt_of_blk hw0
  go_wp2_with (first
    | (go_at_call 41; refine hcp.mono ?_; rintro e w1 ⟨rfl, rfl⟩; clear hcp)
    | (go_at_call 42; refine huq.mono ?_; rintro e w2 ⟨A, c, rfl, ho, hb2⟩; have HO := Lib.hid ho; have HB2 := Lib.hid hb2; have hw2 := (hb2.block _ hlt).trans hw0; obtain ⟨f0, f1, f2, f3⟩ := cells3E hw2; have hl2 := lt_of_blk hw2; clear huq ho hb2))
  exact bodyPost_ret (mea_result (set3E hw2 (.int .i64 1) (.slice A bs.length c) (.string ⟨#[]⟩)) rfl) rfl ⟨A, c, rfl, (own3E HO.out hlt _ _ _).wideE (Nat.le_of_lt hlt), below3E (HB0.out.trans (HB2.out.mono (Nat.le_of_lt hlt))) (Nat.le_refl _) _ _ _⟩
set_option maxRecDepth 100000 in
set_option maxHeartbeats 4000000 in
theorem meant_fault (nm : List UInt8) (w : World) (hl : nm.length ≤ 1000) :
    Calls Try.prog 35 #[.string ⟨(fauP ++ quoL nm).toArray⟩] w (MeantPost ⟨2, [], nm⟩ w) := by
  have hw0 := heap_alloc_new w (.cells #[.int .i64 0, .slice none 0 0, .string ⟨#[]⟩] 45)
  have hb0 : Below w.heap.size w (w.alloc (.cells #[.int .i64 0, .slice none 0 0, .string ⟨#[]⟩] 45)) := (Below.refl _ _).alloc (Nat.le_refl _) _
  have HB0 := Lib.hid hb0
  clear hb0
  go_enter Try.func35, Try.ntmps35
  go_upto_region 1 with fail
  generalize w.alloc (.cells #[.int .i64 0, .slice none 0 0, .string ⟨#[]⟩] 45) = w0 at *
  have hcn := cutP_no (fauP ++ quoL nm) outP (by rfl) w0
  have hcp := cutP_yes fauP (quoL nm) w0
  have huq := unquoted_any nm w0 hl
  have hlt := lt_of_blk hw0
  go_wp2_with (first
    | (go_at_call 41; first
        | (refine hcn.mono ?_; rintro e w1 ⟨rfl, rfl⟩; clear hcn)
        | (refine hcp.mono ?_; rintro e w1 ⟨rfl, rfl⟩; clear hcp))
    | (go_at_call 42; refine huq.mono ?_; rintro e w2 ⟨A, c, rfl, ho, hb2⟩; have HO := Lib.hid ho; have HB2 := Lib.hid hb2; have hw2 := (hb2.block _ hlt).trans hw0; obtain ⟨f0, f1, f2, f3⟩ := cells3E hw2; have hl2 := lt_of_blk hw2; have HCV := Lib.hid (conv_backE c (ownE_rd ho).1); clear huq ho hb2))
  rw [HCV.out]
  simp only [Result.andThen]
  rw [Oper.upon_value]
  clear HCV
  go_wp2_with fail
  exact bodyPost_ret (mea_result (set3E hw2 (.int .i64 2) (.slice none 0 0) (.string ⟨nm.toArray⟩)) rfl) rfl ⟨none, 0, rfl, World.ownsRow_nil _ _ _ _, below3E (HB0.out.trans (HB2.out.mono (Nat.le_of_lt hlt))) (Nat.le_refl _) _ _ _⟩
set_option maxRecDepth 100000 in
set_option maxHeartbeats 4000000 in
theorem meant_else (s : List UInt8) (w : World) (h1 : Lib.hasPrefix s outP = false) (h2 : Lib.hasPrefix s fauP = false) :
    Calls Try.prog 35 #[.string ⟨s.toArray⟩] w (MeantPost ⟨3, [], []⟩ w) := by
  have hw0 := heap_alloc_new w (.cells #[.int .i64 0, .slice none 0 0, .string ⟨#[]⟩] 45)
  have hb0 : Below w.heap.size w (w.alloc (.cells #[.int .i64 0, .slice none 0 0, .string ⟨#[]⟩] 45)) := (Below.refl _ _).alloc (Nat.le_refl _) _
  have HB0 := Lib.hid hb0
  clear hb0
  go_enter Try.func35, Try.ntmps35
  go_upto_region 1 with fail
  generalize w.alloc (.cells #[.int .i64 0, .slice none 0 0, .string ⟨#[]⟩] 45) = w0 at *
  have hcn := cutP_no s outP h1 w0
  have hcm := cutP_no s fauP h2 w0
  have hlt := lt_of_blk hw0
  obtain ⟨f0, f1, f2, f3⟩ := cells3E hw0
  clear h1 h2
  go_wp2_with (go_at_call 41; first
    | (refine hcn.mono ?_; rintro e w1 ⟨rfl, rfl⟩; clear hcn)
    | (refine hcm.mono ?_; rintro e w1 ⟨rfl, rfl⟩; clear hcm))
  exact bodyPost_ret (mea_result (set3E hw0 (.int .i64 3) (.slice none 0 0) (.string ⟨#[]⟩)) rfl) rfl ⟨none, 0, rfl, World.ownsRow_nil _ _ _ _, below3E HB0.out (Nat.le_refl _) _ _ _⟩
end Go.Proofs.Ytlmelfakmllinaa.Fl
