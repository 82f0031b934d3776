/-
  The lexer: Next.
-/
import Derived.Test.YtakijeooaeflkaaGreatDoorLxX
namespace Go.Proofs.YtakijeooaeflkaaGreatDoor.Fl
open Go.RowKit

theorem Ov.toBelow {R B : Nat} {w w' : World} (h : Ov R w w') (hR : B ≤ R) (hB : B ≤ w.heap.size) : Below B w w' :=
  ⟨h.os, h.tape, h.output, h.size, fun k hk => h.block k (by omega) (by omega)⟩
def NextPost (s : ByteArray) (r : TokR) (w : World) (e : Ending) (w' : World) : Prop :=
  Below w.heap.size w w' ∧ ((∃ k t n q p tb, r = .inl (k, t, n, q, p) ∧ q ≤ s.size ∧ p ≤ s.size ∧ sb tb = t ∧ e = .returned (.tuple #[tokV k tb n q, .int .i64 (p : Int), .int .i64 0])) ∨ ∃ n q, r = .inr (n, q) ∧ q ≤ s.size ∧ e = .returned (.tuple #[tokV 0 ⟨#[]⟩ 0 0, .int .i64 (q : Int), .int .i64 n]))
theorem next_boxes (w : World) (s : ByteArray) (p : Nat) (w4 : World) (hw : w4 = (((w.alloc (.cells #[.int .i64 0, .string ⟨#[]⟩, .int .i64 0, .int .i64 0] 30)).alloc (.cells #[.int .i64 0] 3)).alloc (.cells #[.int .i64 0] 27)).alloc (.cells #[.string s, .int .i64 (p : Int), .int .i64 0] 116)) :
    RdrAt w4 (w.heap.size + 1 + 1 + 1) s p 0 ∧ ResAt w4 w.heap.size (w.heap.size + 1) (w.heap.size + 1 + 1) 0 ⟨#[]⟩ 0 0 0 0 ∧ Below w.heap.size w w4 ∧ w.heap.size + 1 + 1 + 1 < w4.heap.size := by
  have a1 := heap_alloc_new w (.cells #[.int .i64 0, .string ⟨#[]⟩, .int .i64 0, .int .i64 0] 30)
  have b1 := (Below.refl w.heap.size w).alloc (Nat.le_refl _) (.cells #[.int .i64 0, .string ⟨#[]⟩, .int .i64 0, .int .i64 0] 30)
  have z1 : (w.alloc (.cells #[.int .i64 0, .string ⟨#[]⟩, .int .i64 0, .int .i64 0] 30)).heap.size = w.heap.size + 1 := World.size_alloc _ _
  generalize w.alloc (.cells #[.int .i64 0, .string ⟨#[]⟩, .int .i64 0, .int .i64 0] 30) = w1 at *
  have a2 := heap_alloc_new w1 (.cells #[.int .i64 0] 3)
  have b2 := (Below.refl w1.heap.size w1).alloc (Nat.le_refl _) (.cells #[.int .i64 0] 3)
  have z2 : (w1.alloc (.cells #[.int .i64 0] 3)).heap.size = w1.heap.size + 1 := World.size_alloc _ _
  generalize w1.alloc (.cells #[.int .i64 0] 3) = w2 at *
  have a3 := heap_alloc_new w2 (.cells #[.int .i64 0] 27)
  have b3 := (Below.refl w2.heap.size w2).alloc (Nat.le_refl _) (.cells #[.int .i64 0] 27)
  have z3 : (w2.alloc (.cells #[.int .i64 0] 27)).heap.size = w2.heap.size + 1 := World.size_alloc _ _
  generalize w2.alloc (.cells #[.int .i64 0] 27) = w3 at *
  have a4 := heap_alloc_new w3 (.cells #[.string s, .int .i64 (p : Int), .int .i64 0] 116)
  have b4 := (Below.refl w3.heap.size w3).alloc (Nat.le_refl _) (.cells #[.string s, .int .i64 (p : Int), .int .i64 0] 116)
  have z4 : (w3.alloc (.cells #[.string s, .int .i64 (p : Int), .int .i64 0] 116)).heap.size = w3.heap.size + 1 := World.size_alloc _ _
  rw [← hw] at a4 b4 z4
  clear hw
  rw [z1] at a2
  rw [z2, z1] at a3
  rw [z3, z2, z1] at a4
  refine ⟨a4, ⟨?_, ?_, ?_⟩, ?_, by omega⟩
  · exact (b4.block _ (by omega)).trans ((b3.block _ (by omega)).trans ((b2.block _ (by omega)).trans a1))
  · exact (b4.block _ (by omega)).trans ((b3.block _ (by omega)).trans a2)
  · exact (b4.block _ (by omega)).trans a3
  · exact b1.trans ((b2.mono (by omega)).trans ((b3.mono (by omega)).trans (b4.mono (by omega))))
theorem away4 {w : World} {C D : Nat} (v0 v1 v2 v3 : Value) (h : D ≠ C) :
    ((((w.setCell ⟨C, 0, none⟩ v0).setCell ⟨C, 1, none⟩ v1).setCell ⟨C, 2, none⟩ v2).setCell ⟨C, 3, none⟩ v3).heap[D]? = w.heap[D]? :=
  (Below.heap_setCell _ _ _ _ h).trans ((Below.heap_setCell _ _ _ _ h).trans ((Below.heap_setCell _ _ _ _ h).trans (Below.heap_setCell _ _ _ _ h)))
theorem next_fin {w W : World} {B k : Nat} {tb : ByteArray} {n : Int} {q : Nat} (pp : Nat) (h : ResAt W B (B + 1) (B + 1 + 1) k tb n q 0 0) (hb : Below B w W) :
    ResAt ((((((W.setCell ⟨B, 0, none⟩ (.int .i64 (k : Int))).setCell ⟨B, 1, none⟩ (.string tb)).setCell ⟨B, 2, none⟩ (.int .i64 n)).setCell ⟨B, 3, none⟩ (.int .i64 (q : Int))).setCell ⟨B + 1, 0, none⟩ (.int .i64 (pp : Int))).setCell ⟨B + 1 + 1, 0, none⟩ (.int .i64 0)).drew B (B + 1) (B + 1 + 1) k tb n q pp 0 ∧
    Below B w ((((((W.setCell ⟨B, 0, none⟩ (.int .i64 (k : Int))).setCell ⟨B, 1, none⟩ (.string tb)).setCell ⟨B, 2, none⟩ (.int .i64 n)).setCell ⟨B, 3, none⟩ (.int .i64 (q : Int))).setCell ⟨B + 1, 0, none⟩ (.int .i64 (pp : Int))).setCell ⟨B + 1 + 1, 0, none⟩ (.int .i64 0)).drew := by
  have t1 := set4 h.tok (.int .i64 (k : Int)) (.string tb) (.int .i64 n) (.int .i64 (q : Int))
  have t2 := (away4 (w := W) (C := B) (D := B + 1) (.int .i64 (k : Int)) (.string tb) (.int .i64 n) (.int .i64 (q : Int)) (by omega)).trans h.beh
  have t3 := (away4 (w := W) (C := B) (D := B + 1 + 1) (.int .i64 (k : Int)) (.string tb) (.int .i64 n) (.int .i64 (q : Int)) (by omega)).trans h.err
  have b1 := (((hb.setCell (p := ⟨B, 0, none⟩) (Nat.le_refl _) (.int .i64 (k : Int))).setCell (p := ⟨B, 1, none⟩) (Nat.le_refl _) (.string tb)).setCell (p := ⟨B, 2, none⟩) (Nat.le_refl _) (.int .i64 n)).setCell (p := ⟨B, 3, none⟩) (Nat.le_refl _) (.int .i64 (q : Int))
  generalize (((W.setCell ⟨B, 0, none⟩ (.int .i64 (k : Int))).setCell ⟨B, 1, none⟩ (.string tb)).setCell ⟨B, 2, none⟩ (.int .i64 n)).setCell ⟨B, 3, none⟩ (.int .i64 (q : Int)) = V at *
  have u1 : (V.setCell ⟨B + 1, 0, none⟩ (.int .i64 (pp : Int))).heap[B]? = _ := (Below.heap_setCell V ⟨B + 1, 0, none⟩ _ B (by show B ≠ B + 1; omega)).trans t1
  have u2 := set1L t2 (.int .i64 (pp : Int))
  have u3 : (V.setCell ⟨B + 1, 0, none⟩ (.int .i64 (pp : Int))).heap[B + 1 + 1]? = _ := (Below.heap_setCell V ⟨B + 1, 0, none⟩ _ (B + 1 + 1) (by show B + 1 + 1 ≠ B + 1; omega)).trans t3
  have b2 := b1.setCell (p := ⟨B + 1, 0, none⟩) (Nat.le_succ _) (.int .i64 (pp : Int))
  generalize V.setCell ⟨B + 1, 0, none⟩ (.int .i64 (pp : Int)) = V2 at *
  have x1 : (V2.setCell ⟨B + 1 + 1, 0, none⟩ (.int .i64 0)).heap[B]? = _ := (Below.heap_setCell V2 ⟨B + 1 + 1, 0, none⟩ _ B (by show B ≠ B + 1 + 1; omega)).trans u1
  have x2 : (V2.setCell ⟨B + 1 + 1, 0, none⟩ (.int .i64 0)).heap[B + 1]? = _ := (Below.heap_setCell V2 ⟨B + 1 + 1, 0, none⟩ _ (B + 1) (by show B + 1 ≠ B + 1 + 1; omega)).trans u2
  have x3 := set1L u3 (.int .i64 0)
  have b3 := b2.setCell (p := ⟨B + 1 + 1, 0, none⟩) (show B ≤ B + 1 + 1 by omega) (.int .i64 0)
  exact ⟨⟨x1, x2, x3⟩, b3.drew⟩
/-- what the last statement of Next leaves -/
def NextQ (B k : Nat) (tb : ByteArray) (n : Int) (q p : Nat) (w : World) (e : Exit) (a : Act) (w' : World) : Prop :=
  e = .ret ∧ a.defers = [{ target := .fn (.func 55) #[.pointer (some ⟨B, 0, none⟩), .pointer (some ⟨B + 1, 0, none⟩), .pointer (some ⟨B + 1 + 1, 0, none⟩)], args := #[] }] ∧
  a.tmps[4]?.getD undef = .pointer (some ⟨B, 0, none⟩) ∧ a.tmps[5]?.getD undef = .pointer (some ⟨B + 1, 0, none⟩) ∧ a.tmps[6]?.getD undef = .pointer (some ⟨B + 1 + 1, 0, none⟩) ∧
  ResAt w' B (B + 1) (B + 1 + 1) k tb n q p 0 ∧ Below B w w'
theorem next_door {B k : Nat} {tb : ByteArray} {n : Int} {q p : Nat} {w : World} {R : Ending → World → Prop} (hR : ∀ w', Below B w w' → R (.returned (.tuple #[tokV k tb n q, .int .i64 (p : Int), .int .i64 0])) w') (e : Exit) (a : Act) (w' : World) (h : NextQ B k tb n q p w e a w') :
    bodyPostD Tryz.prog Tryz.f26 R e a w' := by
  obtain ⟨rfl, hd, h4, h5, h6, hr, hb⟩ := h
  show Leaves Tryz.prog Tryz.f26 a.tmps R a.defers .returning w'
  rw [hd]
  refine leaves_cons (f := 55) (args := #[.pointer (some ⟨B, 0, none⟩), .pointer (some ⟨B + 1, 0, none⟩), .pointer (some ⟨B + 1 + 1, 0, none⟩)]) (by simp) (by simp [go_sem]) ?_
  refine (catch_idle _ _ _ _).mono ?_
  rintro e u' w'' ⟨rfl, rfl, rfl⟩
  obtain ⟨c0, c1, c2, c3, _⟩ := cells4L hr.tok
  obtain ⟨c4, _⟩ := one_cellL hr.beh
  obtain ⟨c5, _⟩ := one_cellL hr.err
  have hp := hR _ hb
  unfold tokV at hp
  simp [Leaves, settle, results, Tryz.results26, go_sem, h4, h5, h6, c0, c1, c2, c3, c4, c5]
  exact hp
set_option maxRecDepth 100000 in
set_option maxHeartbeats 4000000 in
theorem next_any (s : ByteArray) (at0 : Int) (p : Nat) (w : World) (hs : s.size ≤ 16777216) (hp : min (max at0 0) (s.size : Int) = (p : Int)) (hm : MaxAt w) (hE : ∀ w', Below w.heap.size w w' → EnvL w') :
    Calls Tryz.prog 26 #[.string s, .int .i64 at0] w (NextPost s (tokR s p) w) := by
  have hmf : ∀ (fn : Fn) (first cap : Array Value) (w : World), (Instr.makeFunc fn first cap).run Tryz.prog w = .ok (.func fn first cap) w := fun _ _ _ _ => rfl
  have hps : p ≤ s.size := by omega
  have HE := Lib.hid hE
  have hm0 : 0 < w.heap.size := by
    obtain ⟨m, hm⟩ := hm
    exact World.block_lt_of_cell? _ _ hm
  have HM := Lib.hid hm
  have h4 := Lib.hid (next_boxes w s p _ rfl)
  have H0 := Lib.hid hm0
  clear hE hm hm0
  go_enter_defers Tryz.func26, Tryz.ntmps26
  go_wp2_with fail
  obtain ⟨hr4, hres4, hb4, hz4⟩ := h4.out
  clear h4
  generalize (((w.alloc (.cells #[.int .i64 0, .string ⟨#[]⟩, .int .i64 0, .int .i64 0] 30)).alloc (.cells #[.int .i64 0] 3)).alloc (.cells #[.int .i64 0] 27)).alloc (.cells #[.string s, .int .i64 (p : Int), .int .i64 0] 116) = w4 at *
  have hm4 : MaxAt w4 := by
    obtain ⟨m, hm⟩ := HM.out
    exact ⟨m, (World.cell?_of_block (a := ⟨0, 0, none⟩) (hb4.block 0 H0.out)).trans hm⟩
  have ht := token_any (w.heap.size + 1 + 1 + 1) s p 0 w4 hr4 hs hps (by omega) hm4 (fun w' ho => HE.out w' (hb4.trans (ho.toBelow (by omega) hb4.size)))
  have HB4 := Lib.hid hb4
  have HR4 := Lib.hid hres4
  have HZ := Lib.hid hz4
  clear hb4 hres4 hm4 hr4 hz4
  refine ht.mono ?_
  rintro e w5 (⟨k, t, n, q, pp, tb, hr, hq, hpp, rfl, htb, hrd, ho⟩ | ⟨n, q, hr, hq, rfl, ho⟩)
  case inr =>
    have hsz := HR4.out
    have l1 := lt_of_blk hsz.tok
    have l2 := lt_of_blk hsz.beh
    have l3 := lt_of_blk hsz.err
    have hb5 : Below w.heap.size w w5 := HB4.out.trans (ho.toBelow (by omega) HB4.out.size)
    have hres5 : ResAt w5 w.heap.size (w.heap.size + 1) (w.heap.size + 1 + 1) 0 ⟨#[]⟩ 0 0 0 0 := ⟨(ho.block _ l1 (by omega)).trans hsz.tok, (ho.block _ l2 (by omega)).trans hsz.beh, (ho.block _ l3 (by omega)).trans hsz.err⟩
    refine leaves_cons (f := 55) (args := #[.pointer (some ⟨w.heap.size, 0, none⟩), .pointer (some ⟨w.heap.size + 1, 0, none⟩), .pointer (some ⟨w.heap.size + 1 + 1, 0, none⟩)]) (by simp) (by simp [go_sem]) ?_
    refine (catch_panicking w.heap.size _ _ _ n q w5 hres5 ⟨by omega, by omega, by omega, hb5.size⟩).mono ?_
    rintro e u' w6 ⟨rfl, rfl, hR, hB⟩
    have hpost : NextPost s (tokR s p) w (.returned (.tuple #[tokV 0 ⟨#[]⟩ 0 0, .int .i64 (q : Int), .int .i64 n])) w6 := ⟨hb5.trans hB, .inr ⟨n, q, hr, hq, rfl⟩⟩
    obtain ⟨c0, c1, c2, c3, _⟩ := cells4L hR.tok
    obtain ⟨c4, _⟩ := one_cellL hR.beh
    obtain ⟨c5, _⟩ := one_cellL hR.err
    simp [Leaves, settle, caughtC, results, Tryz.results26, go_sem, c0, c1, c2, c3, c4, c5]
    exact hpost
  clear ht
  have hsz := HR4.out
  have l1 := lt_of_blk hsz.tok
  have l2 := lt_of_blk hsz.beh
  have l3 := lt_of_blk hsz.err
  have hb5 : Below w.heap.size w w5 := HB4.out.trans (ho.toBelow (by omega) HB4.out.size)
  have hres5 : ResAt w5 w.heap.size (w.heap.size + 1) (w.heap.size + 1 + 1) 0 ⟨#[]⟩ 0 0 0 0 := ⟨(ho.block _ l1 (by omega)).trans hsz.tok, (ho.block _ l2 (by omega)).trans hsz.beh, (ho.block _ l3 (by omega)).trans hsz.err⟩
  have f1 := cells4L hres5.tok
  have f2 := one_cellL hres5.beh
  have f3 := one_cellL hres5.err
  have f4 := hrd.cells
  clear hsz l1 l2 l3 ho
  have HB5 := Lib.hid hb5
  have HR5 := Lib.hid hres5
  have HRr := Lib.hid hr
  clear hb5 hres5 hr
  unfold tokV
  go_wp2_with fail
  have hb6 : Below w.heap.size w ((((w5.setCell ⟨w.heap.size, 0, none⟩ (.int .i64 (k : Int))).setCell ⟨w.heap.size, 1, none⟩ (.string tb)).setCell ⟨w.heap.size, 2, none⟩ (.int .i64 n)).setCell ⟨w.heap.size, 3, none⟩ (.int .i64 (q : Int))) :=
    (((HB5.out.setCell (Nat.le_refl _) _).setCell (Nat.le_refl _) _).setCell (Nat.le_refl _) _).setCell (Nat.le_refl _) _
  have hk6 : ResAt ((((w5.setCell ⟨w.heap.size, 0, none⟩ (.int .i64 (k : Int))).setCell ⟨w.heap.size, 1, none⟩ (.string tb)).setCell ⟨w.heap.size, 2, none⟩ (.int .i64 n)).setCell ⟨w.heap.size, 3, none⟩ (.int .i64 (q : Int))) w.heap.size (w.heap.size + 1) (w.heap.size + 1 + 1) k tb n q 0 0 := by
    refine ⟨set4 HR5.out.tok _ _ _ _, ?_, ?_⟩
    · exact (away4 _ _ _ _ (by omega)).trans HR5.out.beh
    · exact (away4 _ _ _ _ (by omega)).trans HR5.out.err
  have hr6 : RdrAt ((((w5.setCell ⟨w.heap.size, 0, none⟩ (.int .i64 (k : Int))).setCell ⟨w.heap.size, 1, none⟩ (.string tb)).setCell ⟨w.heap.size, 2, none⟩ (.int .i64 n)).setCell ⟨w.heap.size, 3, none⟩ (.int .i64 (q : Int))) (w.heap.size + 1 + 1 + 1) s pp q :=
    (((hrd.other (by show w.heap.size ≠ _; omega) _ _).other (by show w.heap.size ≠ _; omega) _ _).other (by show w.heap.size ≠ _; omega) _ _).other (by show w.heap.size ≠ _; omega) _ _
  clear HB5 HR5 f1 f2 f3 f4 hrd
  generalize (((w5.setCell ⟨w.heap.size, 0, none⟩ (.int .i64 (k : Int))).setCell ⟨w.heap.size, 1, none⟩ (.string tb)).setCell ⟨w.heap.size, 2, none⟩ (.int .i64 n)).setCell ⟨w.heap.size, 3, none⟩ (.int .i64 (q : Int)) = w6 at *
  have HD := Lib.hid (next_door (B := w.heap.size) (k := k) (tb := tb) (n := n) (q := q) (p := pp) (w := w) (R := NextPost s (tokR s p) w) (fun w' hb => ⟨hb, .inl ⟨k, t, n, q, pp, tb, HRr.out, hq, hpp, htb, rfl⟩⟩))
  have f1 := cells4L hk6.tok
  have f2 := one_cellL hk6.beh
  have f3 := one_cellL hk6.err
  have f4 := hr6.cells
  go_region
  all_goals
    go_wp2_with fail
    have hfin := next_fin pp hk6 hb6
    exact HD.out _ _ _ ⟨rfl, rfl, rfl, rfl, rfl, hfin.1, hfin.2⟩
end Go.Proofs.YtakijeooaeflkaaGreatDoor.Fl
