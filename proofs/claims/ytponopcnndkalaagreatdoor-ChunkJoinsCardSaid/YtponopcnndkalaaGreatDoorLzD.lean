/-
  The document's headers.
-/
import Derived.Test.YtponopcnndkalaaGreatDoorLzA
import Derived.Test.YtponopcnndkalaaGreatDoorLxJc
namespace Go.Proofs.YtponopcnndkalaaGreatDoor.Fl
open Go.RowKit

theorem ris_any (k : Int) (t : ByteArray) (n q kd : Int) (wd : ByteArray) (w : World) :
    Calls Tryz.prog 38 #[.agg #[.int .i64 k, .string t, .int .i64 n, .int .i64 q], .int .i64 kd, .string wd] w fun e w' => e = .returned (.bool (k == kd && t.toList == wd.toList)) ∧ Below w.heap.size w w' := by
  have hb1 : Below w.heap.size w (w.alloc (.cells #[.int .i64 k, .string t, .int .i64 n, .int .i64 q] 90)) := (Below.refl _ _).alloc (Nat.le_refl _) _
  have hw1 := heap_alloc_new w (.cells #[.int .i64 k, .string t, .int .i64 n, .int .i64 q] 90)
  have f1 := cells4L hw1
  have l1 : w.heap.size < (w.alloc (.cells #[.int .i64 k, .string t, .int .i64 n, .int .i64 q] 90)).heap.size := lt_of_blk hw1
  have HB1 := Lib.hid hb1
  clear hb1
  go_enter Tryz.func38, Tryz.ntmps38
  cases h1 : (k == kd)
  · go_wp2_with fail
    go_ret
    exact ⟨by rfl, HB1.out⟩
  · go_wp2_with fail
    go_ret
    exact ⟨by rfl, HB1.out⟩
abbrev methL : List UInt8 := [109, 101, 116, 104, 111, 100, 115]
abbrev clsL : List UInt8 := [99, 108, 97, 115, 115]
def isT (x : Tok) (k : Nat) (wd : List UInt8) : Bool := x.1 == k && x.2.1 == wd
/-- a header of tokens: its class, and whether it is the class's class -/
def headL : List Tok → Option (List UInt8 × Bool)
  | [a, b, _] => if a.1 = 1 ∧ isT b 1 methL = true then some (a.2.1, false) else none
  | [a, b, c, _] => if a.1 = 1 ∧ isT b 1 clsL = true ∧ isT c 1 methL = true then some (a.2.1, true) else none
  | _ => none
def headV : Option (List UInt8 × Bool) → Value
  | some (nm, m) => .tuple #[.agg #[.string (mkB nm), .bool m, .string ⟨#[]⟩, .int .i64 0], .bool true]
  | none => .tuple #[.agg #[.string ⟨#[]⟩, .bool false, .string ⟨#[]⟩, .int .i64 0], .bool false]
theorem rhead_result {W : World} {C : Nat} {v0 v1 v2 v3 u : Value} {a : Array Value} (h : W.heap[C]? = some (.cells #[v0, v1, v2, v3] 42 (0, 0))) (h2 : a[2]?.getD undef = .pointer (some ⟨C, 0, none⟩)) (h3 : a[3]?.getD undef = u) :
    (results Tryz.f22 a).run Tryz.prog W = .ok (.tuple #[.agg #[v0, v1, v2, v3], u]) W := by
  obtain ⟨c0, c1, c2, c3, _⟩ := cells4L h
  simp [results, Tryz.results22, go_sem, h2, h3, c0, c1, c2, c3]
theorem isT_eq (k : Nat) (wd t : List UInt8) (n : Int) (q kd : Nat) : (((k : Int) == (kd : Int)) && (mkB t).toList == (mkB wd).toList) = isT (k, t, n, q) kd wd := by
  unfold isT
  rw [Bool.eq_iff_iff]
  simp only [Bool.and_eq_true, beq_iff_eq]
  rw [ByteArray.toList_eq, ByteArray.toList_eq]
  constructor
  · rintro ⟨h1, h2⟩
    refine ⟨by omega, ?_⟩
    have := congrArg (fun (l : List UInt8) => l) h2
    simpa using this
  · rintro ⟨h1, h2⟩
    refine ⟨by omega, ?_⟩
    show (mkB t).data.toList = (mkB wd).data.toList
    rw [show t = wd from h2]
/-- what stands while a header is read -/
structure HdW (w0 w : World) (C B : Nat) (A : Option Addr) (xs : List Tok) : Prop where
  res : w.heap[C]? = some (.cells #[.string ⟨#[]⟩, .bool false, .string ⟨#[]⟩, .int .i64 0] 42 (0, 0))
  bel : Below w0.heap.size w0 w
  ne : w0.heap.size ≤ C
  rd : Rd w B A (ct xs)
  le : B ≤ w0.heap.size
theorem HdW.below {w0 w w' : World} {C B : Nat} {A : Option Addr} {xs : List Tok} (h : HdW w0 w C B A xs) (hb : Below w.heap.size w w') : HdW w0 w' C B A xs :=
  ⟨(hb.block C (lt_of_blk h.res)).trans h.res, h.bel.trans (hb.mono h.bel.size), h.ne, h.rd.below hb (Nat.le_trans h.le h.bel.size), h.le⟩
theorem HdW.fin {w0 w : World} {C B : Nat} {A : Option Addr} {xs : List Tok} (h : HdW w0 w C B A xs) (x0 x1 x2 x3 : Value) :
    ((((w.setCell ⟨C, 0, none⟩ x0).setCell ⟨C, 1, none⟩ x1).setCell ⟨C, 2, none⟩ x2).setCell ⟨C, 3, none⟩ x3).heap[C]? = some (.cells #[x0, x1, x2, x3] 42 (0, 0)) ∧
    Below w0.heap.size w0 ((((w.setCell ⟨C, 0, none⟩ x0).setCell ⟨C, 1, none⟩ x1).setCell ⟨C, 2, none⟩ x2).setCell ⟨C, 3, none⟩ x3) :=
  ⟨set4 h.res _ _ _ _, (((h.bel.setCell (p := ⟨C, 0, none⟩) h.ne x0).setCell (p := ⟨C, 1, none⟩) h.ne x1).setCell (p := ⟨C, 2, none⟩) h.ne x2).setCell (p := ⟨C, 3, none⟩) h.ne x3⟩
theorem HdW.make {w : World} {B : Nat} {A : Option Addr} {xs : List Tok} (hr : Rd w B A (ct xs)) (hB : B ≤ w.heap.size) : HdW w (w.alloc (.cells #[.string ⟨#[]⟩, .bool false, .string ⟨#[]⟩, .int .i64 0] 42)) w.heap.size B A xs :=
  have hb0 : Below w.heap.size w (w.alloc (.cells #[.string ⟨#[]⟩, .bool false, .string ⟨#[]⟩, .int .i64 0] 42)) := (Below.refl _ _).alloc (Nat.le_refl _) _
  ⟨heap_alloc_new w _, hb0, Nat.le_refl _, hr.below hb0 hB, hB⟩
set_option maxRecDepth 100000 in
set_option maxHeartbeats 4000000 in
theorem rheader_o (n : Nat) (h3 : n ≠ 3) (h4 : n ≠ 4) (A : Option Addr) (c : Nat) (w : World) :
    Calls Tryz.prog 22 #[.slice A n c] w fun e w' => e = .returned (headV none) ∧ Below w.heap.size w w' := by
  have HH := Lib.hid (HdW.make (w := w) (B := 0) (A := none) (xs := []) (.inl rfl) (Nat.zero_le _))
  have e3 : ((n : Int) == 3) = false := by rw [beq_eq_false_iff_ne]; omega
  have e4 : ((n : Int) == 4) = false := by rw [beq_eq_false_iff_ne]; omega
  clear h3 h4
  go_enter Tryz.func22, Tryz.ntmps22
  go_upto_region 1 with fail
  generalize w.alloc (.cells #[.string ⟨#[]⟩, .bool false, .string ⟨#[]⟩, .int .i64 0] 42) = w1 at *
  generalize hC : w.heap.size = C at *
  have f0 := cells4L HH.out.res
  have l0 := lt_of_blk HH.out.res
  go_wp2_with fail
  obtain ⟨g1, g2⟩ := HH.out.fin (.string ⟨#[]⟩) (.bool false) (.string ⟨#[]⟩) (.int .i64 0)
  refine bodyPost_ret (v := headV none) (rhead_result g1 rfl rfl) rfl ?_
  exact ⟨rfl, g2⟩
set_option maxRecDepth 100000 in
set_option maxHeartbeats 4000000 in
theorem rheader_3 (k0 : Nat) (d0 : List UInt8) (n0 : Int) (q0 : Nat) (k1 : Nat) (d1 : List UInt8) (n1 : Int) (q1 : Nat) (z : Tok) (A : Option Addr) (c B : Nat) (w : World) (hr : Rd w B A (ct [(k0, d0, n0, q0), (k1, d1, n1, q1), z])) (hB : B ≤ w.heap.size) (hc : 3 ≤ c) :
    Calls Tryz.prog 22 #[.slice A 3 c] w fun e w' => e = .returned (headV (headL [(k0, d0, n0, q0), (k1, d1, n1, q1), z])) ∧ Below w.heap.size w w' := by
  obtain ⟨b, off, rfl, hb, a0, a1, _, _⟩ := rdK_at (k := 0) hr (by simp) rfl
  have HH := Lib.hid (HdW.make hr hB)
  obtain ⟨r, hrr⟩ : ∃ r, headL [(k0, d0, n0, q0), (k1, d1, n1, q1), z] = r := ⟨_, rfl⟩
  rw [hrr]
  have HR := Lib.hid (show (if k0 = 1 ∧ isT (k1, d1, n1, q1) 1 methL = true then some (d0, false) else none) = r from hrr)
  clear hrr a0 a1
  go_enter Tryz.func22, Tryz.ntmps22
  go_upto_region 1 with fail
  generalize w.alloc (.cells #[.string ⟨#[]⟩, .bool false, .string ⟨#[]⟩, .int .i64 0] 42) = w1 at *
  obtain ⟨C, hC⟩ : ∃ C, w.heap.size = C := ⟨_, rfl⟩
  have HH1 : Hid (HdW w w1 C B (some ⟨b, off, none⟩) [(k0, d0, n0, q0), (k1, d1, n1, q1), z]) := Lib.hid (by rw [← hC]; exact HH.out)
  have hbw : b < w1.heap.size := Nat.lt_of_lt_of_le hb (Nat.le_trans HH1.out.le HH1.out.bel.size)
  have hx0 := rdK_at (k := 0) HH1.out.rd (by simp) rfl
  have hx1 := rdK_at (k := 1) HH1.out.rd (by simp) rfl
  obtain ⟨b', off', e', _, a0, a1, a2, a3⟩ := hx0
  injection e' with e'
  injection e' with e1 e2
  subst e1 e2
  obtain ⟨b', off', e', _, b0, b1, b2, b3⟩ := hx1
  injection e' with e'
  injection e' with e1 e2
  subst e1 e2
  simp only [Nat.zero_mul, Nat.one_mul, Nat.add_zero] at a0 a1 a2 a3 b0 b1 b2 b3
  clear HH hr
  simp only [hC]
  have f0 := cells4L HH1.out.res
  have l0 := lt_of_blk HH1.out.res
  by_cases hk0 : k0 = 1
  case neg =>
    have HE := Lib.hid (HR.out.symm.trans (if_neg (fun h => hk0 h.1)))
    have hkb : ((k0 : Int) == 1) = false := by rw [beq_eq_false_iff_ne]; omega
    clear HR hk0
    go_wp2_with fail
    obtain ⟨g1, g2⟩ := HH1.out.fin (.string ⟨#[]⟩) (.bool false) (.string ⟨#[]⟩) (.int .i64 0)
    refine bodyPost_ret (v := headV none) (rhead_result g1 rfl rfl) rfl ?_
    exact ⟨by rw [HE.out], by subst hC; exact g2⟩
  subst hk0
  have his := ris_any (k1 : Int) (mkB d1) n1 (q1 : Int) 1 (mkB methL) w1
  rw [show (((k1 : Nat) : Int) == 1 && (mkB d1).toList == (mkB methL).toList) = isT (k1, d1, n1, q1) 1 methL from isT_eq k1 methL d1 n1 q1 1] at his
  have hmt : (mkB methL) = (⟨#[109, 101, 116, 104, 111, 100, 115]⟩ : ByteArray) := rfl
  rw [hmt] at his
  have HR1 := Lib.hid (show r = if isT (k1, d1, n1, q1) 1 methL = true then some (d0, false) else none by rw [← HR.out]; simp)
  clear HR hmt
  cases hv : isT (k1, d1, n1, q1) 1 methL
  · rw [hv] at his
    have HE := Lib.hid (show r = none by rw [HR1.out, hv]; rfl)
    clear HR1 hv
    go_wp2_with (first | (go_at_call 38; refine his.mono ?_; rintro e w2 ⟨rfl, hb2⟩; have HH2 := Lib.hid (HH1.out.below hb2); have f2 := cells4L HH2.out.res; have l2 := lt_of_blk HH2.out.res; have z1 := (hb2.cell (p := ⟨b, off + 1, none⟩) hbw).trans a1; have hbw2 := Nat.lt_of_lt_of_le hbw hb2.size))
    obtain ⟨g1, g2⟩ := HH2.out.fin (.string ⟨#[]⟩) (.bool false) (.string ⟨#[]⟩) (.int .i64 0)
    refine bodyPost_ret (v := headV none) (rhead_result g1 rfl rfl) rfl ?_
    exact ⟨by rw [HE.out], by subst hC; exact g2⟩
  · rw [hv] at his
    have HE := Lib.hid (show r = some (d0, false) by rw [HR1.out, hv]; rfl)
    clear HR1 hv
    go_wp2_with (first | (go_at_call 38; refine his.mono ?_; rintro e w2 ⟨rfl, hb2⟩; have HH2 := Lib.hid (HH1.out.below hb2); have f2 := cells4L HH2.out.res; have l2 := lt_of_blk HH2.out.res; have z1 := (hb2.cell (p := ⟨b, off + 1, none⟩) hbw).trans a1; have hbw2 := Nat.lt_of_lt_of_le hbw hb2.size))
    obtain ⟨g1, g2⟩ := HH2.out.fin (.string (mkB d0)) (.bool false) (.string ⟨#[]⟩) (.int .i64 0)
    refine bodyPost_ret (v := headV (some (d0, false))) (rhead_result g1 rfl rfl) rfl ?_
    exact ⟨by rw [HE.out], by subst hC; exact g2⟩
set_option maxRecDepth 100000 in
set_option maxHeartbeats 4000000 in
theorem rheader_4 (k0 : Nat) (d0 : List UInt8) (n0 : Int) (q0 : Nat) (k1 : Nat) (d1 : List UInt8) (n1 : Int) (q1 : Nat) (k2 : Nat) (d2 : List UInt8) (n2 : Int) (q2 : Nat) (z : Tok) (A : Option Addr) (c B : Nat) (w : World) (hr : Rd w B A (ct [(k0, d0, n0, q0), (k1, d1, n1, q1), (k2, d2, n2, q2), z])) (hB : B ≤ w.heap.size) (hc : 4 ≤ c) :
    Calls Tryz.prog 22 #[.slice A 4 c] w fun e w' => e = .returned (headV (headL [(k0, d0, n0, q0), (k1, d1, n1, q1), (k2, d2, n2, q2), z])) ∧ Below w.heap.size w w' := by
  obtain ⟨b, off, rfl, hb, a0, a1, _, _⟩ := rdK_at (k := 0) hr (by simp) rfl
  have HH := Lib.hid (HdW.make hr hB)
  obtain ⟨r, hrr⟩ : ∃ r, headL [(k0, d0, n0, q0), (k1, d1, n1, q1), (k2, d2, n2, q2), z] = r := ⟨_, rfl⟩
  rw [hrr]
  have HR := Lib.hid (show (if k0 = 1 ∧ isT (k1, d1, n1, q1) 1 clsL = true ∧ isT (k2, d2, n2, q2) 1 methL = true then some (d0, true) else none) = r from hrr)
  clear hrr a0 a1
  go_enter Tryz.func22, Tryz.ntmps22
  go_upto_region 1 with fail
  generalize w.alloc (.cells #[.string ⟨#[]⟩, .bool false, .string ⟨#[]⟩, .int .i64 0] 42) = w1 at *
  obtain ⟨C, hC⟩ : ∃ C, w.heap.size = C := ⟨_, rfl⟩
  have HH1 : Hid (HdW w w1 C B (some ⟨b, off, none⟩) [(k0, d0, n0, q0), (k1, d1, n1, q1), (k2, d2, n2, q2), z]) := Lib.hid (by rw [← hC]; exact HH.out)
  have hbw : b < w1.heap.size := Nat.lt_of_lt_of_le hb (Nat.le_trans HH1.out.le HH1.out.bel.size)
  have hx0 := rdK_at (k := 0) HH1.out.rd (by simp) rfl
  have hx1 := rdK_at (k := 1) HH1.out.rd (by simp) rfl
  have hx2 := rdK_at (k := 2) HH1.out.rd (by simp) rfl
  obtain ⟨b', off', e', _, a0, a1, a2, a3⟩ := hx0
  injection e' with e'
  injection e' with e1 e2
  subst e1 e2
  obtain ⟨b', off', e', _, b0, b1, b2, b3⟩ := hx1
  injection e' with e'
  injection e' with e1 e2
  subst e1 e2
  obtain ⟨b', off', e', _, c0, c1, c2, c3⟩ := hx2
  injection e' with e'
  injection e' with e1 e2
  subst e1 e2
  simp only [Nat.zero_mul, Nat.one_mul, Nat.add_zero, show 2 * 4 = 8 from rfl] at a0 a1 a2 a3 b0 b1 b2 b3 c0 c1 c2 c3
  clear HH hr
  simp only [hC]
  have f0 := cells4L HH1.out.res
  have l0 := lt_of_blk HH1.out.res
  by_cases hk0 : k0 = 1
  case neg =>
    have HE := Lib.hid (HR.out.symm.trans (if_neg (fun h => hk0 h.1)))
    have hkb : ((k0 : Int) == 1) = false := by rw [beq_eq_false_iff_ne]; omega
    clear HR hk0
    go_wp2_with fail
    obtain ⟨g1, g2⟩ := HH1.out.fin (.string ⟨#[]⟩) (.bool false) (.string ⟨#[]⟩) (.int .i64 0)
    refine bodyPost_ret (v := headV none) (rhead_result g1 rfl rfl) rfl ?_
    exact ⟨by rw [HE.out], by subst hC; exact g2⟩
  subst hk0
  have his := ris_any (k1 : Int) (mkB d1) n1 (q1 : Int) 1 (mkB clsL) w1
  rw [show (((k1 : Nat) : Int) == 1 && (mkB d1).toList == (mkB clsL).toList) = isT (k1, d1, n1, q1) 1 clsL from isT_eq k1 clsL d1 n1 q1 1] at his
  have hmt : (mkB clsL) = (⟨#[99, 108, 97, 115, 115]⟩ : ByteArray) := rfl
  rw [hmt] at his
  have his2 := fun w => ris_any (k2 : Int) (mkB d2) n2 (q2 : Int) 1 (mkB methL) w
  rw [show (((k2 : Nat) : Int) == 1 && (mkB d2).toList == (mkB methL).toList) = isT (k2, d2, n2, q2) 1 methL from isT_eq k2 methL d2 n2 q2 1] at his2
  have hmt2 : (mkB methL) = (⟨#[109, 101, 116, 104, 111, 100, 115]⟩ : ByteArray) := rfl
  rw [hmt2] at his2
  have HR1 := Lib.hid (show r = if isT (k1, d1, n1, q1) 1 clsL = true ∧ isT (k2, d2, n2, q2) 1 methL = true then some (d0, true) else none by rw [← HR.out]; simp)
  clear HR hmt hmt2
  cases hv : isT (k1, d1, n1, q1) 1 clsL
  · rw [hv] at his
    have HE := Lib.hid (show r = none by rw [HR1.out, hv]; simp)
    clear HR1 hv his2
    go_wp2_with (first | (go_at_call 38; refine his.mono ?_; rintro e w2 ⟨rfl, hb2⟩; have HH2 := Lib.hid (HH1.out.below hb2); have f2 := cells4L HH2.out.res; have l2 := lt_of_blk HH2.out.res; have z1 := (hb2.cell (p := ⟨b, off + 1, none⟩) hbw).trans a1; have y0 := (hb2.cell (p := ⟨b, off + 8, none⟩) hbw).trans c0; have y1 := (hb2.cell (p := ⟨b, off + 8 + 1, none⟩) hbw).trans c1; have y2 := (hb2.cell (p := ⟨b, off + 8 + 2, none⟩) hbw).trans c2; have y3 := (hb2.cell (p := ⟨b, off + 8 + 3, none⟩) hbw).trans c3; have hbw2 := Nat.lt_of_lt_of_le hbw hb2.size))
    obtain ⟨g1, g2⟩ := HH2.out.fin (.string ⟨#[]⟩) (.bool false) (.string ⟨#[]⟩) (.int .i64 0)
    refine bodyPost_ret (v := headV none) (rhead_result g1 rfl rfl) rfl ?_
    exact ⟨by rw [HE.out], by subst hC; exact g2⟩
  rw [hv] at his
  have HR2 := Lib.hid (show r = if isT (k2, d2, n2, q2) 1 methL = true then some (d0, true) else none by rw [HR1.out, hv]; simp)
  clear HR1 hv
  cases hv2 : isT (k2, d2, n2, q2) 1 methL
  · rw [hv2] at his2
    have HE := Lib.hid (show r = none by rw [HR2.out, hv2]; rfl)
    clear HR2 hv2
    go_wp2_with fail
    refine his.mono ?_
    rintro e w2 ⟨rfl, hb2⟩
    have HH2 := Lib.hid (HH1.out.below hb2)
    have f2 := cells4L HH2.out.res
    have l2 := lt_of_blk HH2.out.res
    have z1 := (hb2.cell (p := ⟨b, off + 1, none⟩) hbw).trans a1
    have y0 := (hb2.cell (p := ⟨b, off + 8, none⟩) hbw).trans c0
    have y1 := (hb2.cell (p := ⟨b, off + 8 + 1, none⟩) hbw).trans c1
    have y2 := (hb2.cell (p := ⟨b, off + 8 + 2, none⟩) hbw).trans c2
    have y3 := (hb2.cell (p := ⟨b, off + 8 + 3, none⟩) hbw).trans c3
    have hbw2 := Nat.lt_of_lt_of_le hbw hb2.size
    clear his hb2
    go_wp2_with (first | (go_at_call 38; refine (his2 _).mono ?_; rintro e w3 ⟨rfl, hb3⟩; have HH3 := Lib.hid (HH2.out.below hb3); have f3 := cells4L HH3.out.res; have l3 := lt_of_blk HH3.out.res; have z2 := (hb3.cell (p := ⟨b, off + 1, none⟩) hbw2).trans z1; have hbw3 := Nat.lt_of_lt_of_le hbw2 hb3.size))
    obtain ⟨g1, g2⟩ := HH3.out.fin (.string ⟨#[]⟩) (.bool false) (.string ⟨#[]⟩) (.int .i64 0)
    refine bodyPost_ret (v := headV none) (rhead_result g1 rfl rfl) rfl ?_
    exact ⟨by rw [HE.out], by subst hC; exact g2⟩
  · rw [hv2] at his2
    have HE := Lib.hid (show r = some (d0, true) by rw [HR2.out, hv2]; rfl)
    clear HR2 hv2
    go_wp2_with fail
    refine his.mono ?_
    rintro e w2 ⟨rfl, hb2⟩
    have HH2 := Lib.hid (HH1.out.below hb2)
    have f2 := cells4L HH2.out.res
    have l2 := lt_of_blk HH2.out.res
    have z1 := (hb2.cell (p := ⟨b, off + 1, none⟩) hbw).trans a1
    have y0 := (hb2.cell (p := ⟨b, off + 8, none⟩) hbw).trans c0
    have y1 := (hb2.cell (p := ⟨b, off + 8 + 1, none⟩) hbw).trans c1
    have y2 := (hb2.cell (p := ⟨b, off + 8 + 2, none⟩) hbw).trans c2
    have y3 := (hb2.cell (p := ⟨b, off + 8 + 3, none⟩) hbw).trans c3
    have hbw2 := Nat.lt_of_lt_of_le hbw hb2.size
    clear his hb2
    go_wp2_with (first | (go_at_call 38; refine (his2 _).mono ?_; rintro e w3 ⟨rfl, hb3⟩; have HH3 := Lib.hid (HH2.out.below hb3); have f3 := cells4L HH3.out.res; have l3 := lt_of_blk HH3.out.res; have z2 := (hb3.cell (p := ⟨b, off + 1, none⟩) hbw2).trans z1; have hbw3 := Nat.lt_of_lt_of_le hbw2 hb3.size))
    obtain ⟨g1, g2⟩ := HH3.out.fin (.string (mkB d0)) (.bool true) (.string ⟨#[]⟩) (.int .i64 0)
    refine bodyPost_ret (v := headV (some (d0, true))) (rhead_result g1 rfl rfl) rfl ?_
    exact ⟨by rw [HE.out], by subst hC; exact g2⟩
theorem rheader_any (xs : List Tok) (A : Option Addr) (c B : Nat) (w : World) (hr : Rd w B A (ct xs)) (hB : B ≤ w.heap.size) (hc : xs.length ≤ c) :
    Calls Tryz.prog 22 #[.slice A xs.length c] w fun e w' => e = .returned (headV (headL xs)) ∧ Below w.heap.size w w' := by
  match xs, hr, hc with
  | [], _, _ => exact rheader_o 0 (by decide) (by decide) A c w
  | [_], _, _ => exact rheader_o 1 (by decide) (by decide) A c w
  | [_, _], _, _ => exact rheader_o 2 (by decide) (by decide) A c w
  | [(k0, d0, n0, q0), (k1, d1, n1, q1), z], hr, hc => exact rheader_3 k0 d0 n0 q0 k1 d1 n1 q1 z A c B w hr hB hc
  | [(k0, d0, n0, q0), (k1, d1, n1, q1), (k2, d2, n2, q2), z], hr, hc => exact rheader_4 k0 d0 n0 q0 k1 d1 n1 q1 k2 d2 n2 q2 z A c B w hr hB hc
  | _ :: _ :: _ :: _ :: _ :: l, _, _ => exact rheader_o (l.length + 5) (by omega) (by omega) A c w
end Go.Proofs.YtponopcnndkalaaGreatDoor.Fl

/-
  The document's class definitions.
-/
namespace Go.Proofs.YtponopcnndkalaaGreatDoor.Fl
open Go.RowKit

abbrev subL : List UInt8 := [115, 117, 98, 99, 108, 97, 115, 115, 58]
abbrev fldL : List UInt8 := [102, 105, 101, 108, 100, 115, 58]
abbrev nilL : List UInt8 := [110, 105, 108]
/-- a class definition of tokens: its name, that of the one above, the text of its fields -/
def classL : List Tok → Option (List UInt8 × List UInt8 × List UInt8)
  | [a, b, c, d, e, _] => if a.1 = 1 ∧ isT b 2 subL = true ∧ c.1 = 5 ∧ isT d 2 fldL = true ∧ e.1 = 4 then some (c.2.1, a.2.1, e.2.1) else none
  | _ => none
def supN (sp : List UInt8) : List UInt8 := if sp = nilL then [] else sp
def namesOk (l : List (List UInt8)) : Bool := l.all fun x => arityL (mkB x) == 0
def clsOk (nm ft : List UInt8) : Bool := arityL (mkB nm) == 0 && namesOk (wordsA [] ft)
def ClsPost (xs : List Tok) (at_ : Int) (w : World) (e : Ending) (w' : World) : Prop :=
  Below w.heap.size w w' ∧ ((classL xs = none ∧ e = .returned (.tuple #[.agg #[.string ⟨#[]⟩, .string ⟨#[]⟩, .slice none 0 0, .int .i64 0], .bool false])) ∨
    ∃ nm sp ft A c, classL xs = some (nm, sp, ft) ∧ e = .returned (.tuple #[.agg #[.string (mkB nm), .string (mkB (supN sp)), .slice A (wordsA [] ft).length c, .int .i64 at_], .bool (clsOk nm ft)]) ∧ OwnS w' w.heap.size (.slice A (wordsA [] ft).length c) (wordsA [] ft))
theorem tok_cells {w : World} {B b off : Nat} {xs : List Tok} (h : Rd w B (some ⟨b, off, none⟩) (ct xs)) {k : Nat} (hk : k < xs.length) {kd : Nat} {wd : List UInt8} {nm : Int} {at_ : Nat} (hx : xs[k] = (kd, wd, nm, at_)) :
    w.cell? ⟨b, off + k * 4, none⟩ = some (.int .i64 (kd : Int)) ∧ w.cell? ⟨b, off + k * 4 + 1, none⟩ = some (.string ⟨wd.toArray⟩) ∧ w.cell? ⟨b, off + k * 4 + 2, none⟩ = some (.int .i64 nm) ∧ w.cell? ⟨b, off + k * 4 + 3, none⟩ = some (.int .i64 (at_ : Int)) := by
  obtain ⟨b', off', e, _, c0, c1, c2, c3⟩ := rdK_at h hk hx
  injection e with e
  injection e with e1 e2
  subst e1 e2
  exact ⟨c0, c1, c2, c3⟩
/-- what stands while a class is read -/
structure ClW (w0 w : World) (C B b off : Nat) (xs : List Tok) : Prop where
  res : w.heap[C]? = some (.cells #[.string ⟨#[]⟩, .string ⟨#[]⟩, .slice none 0 0, .int .i64 0] 40 (0, 0))
  bel : Below w0.heap.size w0 w
  ne : w0.heap.size ≤ C
  rd : Rd w B (some ⟨b, off, none⟩) (ct xs)
  le : B ≤ w0.heap.size
  lt : b < B
theorem ClW.below {w0 w w' : World} {C B b off : Nat} {xs : List Tok} (h : ClW w0 w C B b off xs) (hb : Below w.heap.size w w') : ClW w0 w' C B b off xs :=
  ⟨(hb.block C (lt_of_blk h.res)).trans h.res, h.bel.trans (hb.mono h.bel.size), h.ne, h.rd.below hb (Nat.le_trans h.le h.bel.size), h.le, h.lt⟩
theorem ClW.fin {w0 w : World} {C B b off : Nat} {xs : List Tok} (h : ClW w0 w C B b off xs) (x0 x1 x2 x3 : Value) :
    ((((w.setCell ⟨C, 0, none⟩ x0).setCell ⟨C, 1, none⟩ x1).setCell ⟨C, 2, none⟩ x2).setCell ⟨C, 3, none⟩ x3).heap[C]? = some (.cells #[x0, x1, x2, x3] 40 (0, 0)) ∧
    Below w0.heap.size w0 ((((w.setCell ⟨C, 0, none⟩ x0).setCell ⟨C, 1, none⟩ x1).setCell ⟨C, 2, none⟩ x2).setCell ⟨C, 3, none⟩ x3) :=
  ⟨set4 h.res _ _ _ _, (((h.bel.setCell (p := ⟨C, 0, none⟩) h.ne x0).setCell (p := ⟨C, 1, none⟩) h.ne x1).setCell (p := ⟨C, 2, none⟩) h.ne x2).setCell (p := ⟨C, 3, none⟩) h.ne x3⟩
theorem ClW.make {w : World} {B b off : Nat} {xs : List Tok} (hr : Rd w B (some ⟨b, off, none⟩) (ct xs)) (hB : B ≤ w.heap.size) (hb : b < B) : ClW w (w.alloc (.cells #[.string ⟨#[]⟩, .string ⟨#[]⟩, .slice none 0 0, .int .i64 0] 40)) w.heap.size B b off xs :=
  have hb0 : Below w.heap.size w (w.alloc (.cells #[.string ⟨#[]⟩, .string ⟨#[]⟩, .slice none 0 0, .int .i64 0] 40)) := (Below.refl _ _).alloc (Nat.le_refl _) _
  ⟨heap_alloc_new w _, hb0, Nat.le_refl _, hr.below hb0 hB, hB, hb⟩
theorem ClW.hi {w0 w : World} {C B b off : Nat} {xs : List Tok} (h : ClW w0 w C B b off xs) : b < w.heap.size := Nat.lt_of_lt_of_le h.lt (Nat.le_trans h.le h.bel.size)
theorem wordsA_le (l : List UInt8) : ∀ cur, ∀ x ∈ wordsA cur l, x.length ≤ cur.length + l.length := by
  induction l with
  | nil =>
    intro cur x hx
    rw [wordsA] at hx
    split at hx
    · cases hx
    · rw [List.mem_singleton] at hx; subst hx; simp
  | cons c l ih =>
    intro cur x hx
    rw [wordsA] at hx
    split at hx
    · split at hx
      · have := ih [] x hx; simp at this ⊢; omega
      · rcases List.mem_cons.1 hx with rfl | hx
        · simp
        · have := ih [] x hx; simp at this ⊢; omega
    · have := ih (cur ++ [c]) x hx; simp at this ⊢; omega
theorem wordsA_cnt (l : List UInt8) : ∀ cur, (wordsA cur l).length ≤ l.length + 1 := by
  induction l with
  | nil =>
    intro cur
    rw [wordsA]
    split <;> simp
  | cons c l ih =>
    intro cur
    rw [wordsA]
    split
    · split
      · have := ih []; simp; omega
      · have := ih []; simp; omega
    · have := ih (cur ++ [c]); simp; omega
theorem rdS_at {w : World} {B : Nat} {A : Option Addr} {xs : List (List UInt8)} (h : Rd w B A (cs_ xs)) {k : Nat} (hk : k < xs.length) : ∃ b off, A = some ⟨b, off, none⟩ ∧ b < B ∧ w.cell? ⟨b, off + k, none⟩ = some (.string ⟨xs[k].toArray⟩) := by
  obtain ⟨b, off, h1, h2, h3⟩ := Rd.at_ h (k := k) (by rw [cs_len]; exact hk)
  refine ⟨b, off, h1, h2, h3.trans ?_⟩
  simp [cs_, mkB]
theorem namesOk_more (l : List (List UInt8)) {i : Nat} (hi : i < l.length) : namesOk (l.take (i + 1)) = (namesOk (l.take i) && (arityL (mkB l[i]) == 0)) := by
  unfold namesOk
  rw [List.take_succ_eq_append_getElem hi, List.all_append]
  simp
theorem OwnS.wide {w : World} {base base' : Nat} {v : Value} {xs : List (List UInt8)} (h : OwnS w base v xs) (hb : base' ≤ base) : OwnS w base' v xs :=
  ⟨h.1, h.2.elim .inl fun ⟨g, cap, cur, hv, hbg, hg, r⟩ => .inr ⟨g, cap, cur, hv, Nat.le_trans hb hbg, hg, r⟩⟩
theorem OwnS.cell {w : World} {base : Nat} {v : Value} {xs : List (List UInt8)} (h : OwnS w base v xs) {P k : Nat} (hP : v.ownBlock ≠ some P) (x : Value) : OwnS (w.setCell ⟨P, k, none⟩ x) base v xs := ownsRow_setCell_other h (a := ⟨P, k, none⟩) hP x
theorem ClW.put {w0 w3 w5 : World} {C B b off P ba : Nat} {xs : List Tok} {v : Value} {l : List (List UInt8)} (h : ClW w0 w3 C B b off xs) (hb : Below w3.heap.size w3 w5) (hP : w5.heap[P]? = some (.cells #[.string ⟨#[]⟩, .string ⟨#[]⟩, .slice none 0 0, .int .i64 0] 40 (0, 0))) (hl : w3.heap.size ≤ P) (ho : OwnS w5 ba v l) (hne : v.ownBlock ≠ some P) (x0 x1 x2 x3 : Value) :
    Below w3.heap.size w3 ((((w5.setCell ⟨P, 0, none⟩ x0).setCell ⟨P, 1, none⟩ x1).setCell ⟨P, 2, none⟩ x2).setCell ⟨P, 3, none⟩ x3) ∧ (((((w5.setCell ⟨P, 0, none⟩ x0).setCell ⟨P, 1, none⟩ x1).setCell ⟨P, 2, none⟩ x2).setCell ⟨P, 3, none⟩ x3).heap[P]? = some (.cells #[x0, x1, x2, x3] 40 (0, 0)) ∧ w0.heap.size ≤ P ∧ P ≠ C) ∧ OwnS ((((w5.setCell ⟨P, 0, none⟩ x0).setCell ⟨P, 1, none⟩ x1).setCell ⟨P, 2, none⟩ x2).setCell ⟨P, 3, none⟩ x3) ba v l ∧ ClW w0 ((((w5.setCell ⟨P, 0, none⟩ x0).setCell ⟨P, 1, none⟩ x1).setCell ⟨P, 2, none⟩ x2).setCell ⟨P, 3, none⟩ x3) C B b off xs := by
  have hB : Below w3.heap.size w3 ((((w5.setCell ⟨P, 0, none⟩ x0).setCell ⟨P, 1, none⟩ x1).setCell ⟨P, 2, none⟩ x2).setCell ⟨P, 3, none⟩ x3) := (((hb.setCell (p := ⟨P, 0, none⟩) hl x0).setCell (p := ⟨P, 1, none⟩) hl x1).setCell (p := ⟨P, 2, none⟩) hl x2).setCell (p := ⟨P, 3, none⟩) hl x3
  have hC := lt_of_blk h.res
  exact ⟨hB, ⟨set4 hP _ _ _ _, Nat.le_trans h.bel.size hl, by omega⟩, (((ho.cell hne x0).cell hne x1).cell hne x2).cell hne x3, h.below hB⟩
theorem ClW.one {w0 w : World} {C B b off P : Nat} {xs : List Tok} (h : ClW w0 w C B b off xs) (hl : w0.heap.size ≤ P) (hne : P ≠ C) (k : Nat) (x : Value) : ClW w0 (w.setCell ⟨P, k, none⟩ x) C B b off xs :=
  have hb : Below w0.heap.size w (w.setCell ⟨P, k, none⟩ x) := (Below.refl w0.heap.size w).setCell (p := ⟨P, k, none⟩) hl x
  ⟨(heap_setCell_other _ _ _ _ (fun e => hne e.symm)).trans h.res, h.bel.setCell (p := ⟨P, k, none⟩) hl x, h.ne, h.rd.below hb h.le, h.le, h.lt⟩
theorem rcls_result {W : World} {C : Nat} {v0 v1 v2 v3 u : Value} {a : Array Value} (h : W.heap[C]? = some (.cells #[v0, v1, v2, v3] 40 (0, 0))) (h2 : a[4]?.getD undef = .pointer (some ⟨C, 0, none⟩)) (h3 : a[5]?.getD undef = u) :
    (results Tryz.f21 a).run Tryz.prog W = .ok (.tuple #[.agg #[v0, v1, v2, v3], u]) W := by
  obtain ⟨c0, c1, c2, c3, _⟩ := cells4L h
  simp [results, Tryz.results21, go_sem, h2, h3, c0, c1, c2, c3]
set_option maxRecDepth 100000 in
set_option maxHeartbeats 4000000 in
theorem rclass_o (n : Nat) (h6 : n ≠ 6) (A : Option Addr) (c : Nat) (at_ : Int) (w : World) :
    Calls Tryz.prog 21 #[.slice A n c, .int .i64 at_] w fun e w' => e = .returned (.tuple #[.agg #[.string ⟨#[]⟩, .string ⟨#[]⟩, .slice none 0 0, .int .i64 0], .bool false]) ∧ Below w.heap.size w w' := by
  have hw0 := heap_alloc_new w (.cells #[.string ⟨#[]⟩, .string ⟨#[]⟩, .slice none 0 0, .int .i64 0] 40)
  have hb0 : Below w.heap.size w (w.alloc (.cells #[.string ⟨#[]⟩, .string ⟨#[]⟩, .slice none 0 0, .int .i64 0] 40)) := (Below.refl _ _).alloc (Nat.le_refl _) _
  have e6 : ((n : Int) != 6) = true := by rw [bne_iff_ne]; omega
  clear h6
  go_enter Tryz.func21, Tryz.ntmps21
  go_upto_region 1 with fail
  generalize w.alloc (.cells #[.string ⟨#[]⟩, .string ⟨#[]⟩, .slice none 0 0, .int .i64 0] 40) = w1 at *
  obtain ⟨C, hC⟩ : ∃ C, w.heap.size = C := ⟨_, rfl⟩
  rw [hC] at hw0
  have HW0 := Lib.hid hw0
  have HB0 := Lib.hid hb0
  have HN := Lib.hid (Nat.le_of_eq hC)
  simp only [hC]
  have f0 := cells4L hw0
  have l0 := lt_of_blk hw0
  clear hw0 hb0
  go_wp2_with fail
  have g1 := set4 HW0.out (.string ⟨#[]⟩) (.string ⟨#[]⟩) (.slice none 0 0) (.int .i64 0)
  refine bodyPost_ret (v := .tuple #[.agg #[.string ⟨#[]⟩, .string ⟨#[]⟩, .slice none 0 0, .int .i64 0], .bool false]) (rcls_result g1 rfl rfl) rfl ?_
  exact ⟨rfl, by subst hC; exact (((HB0.out.setCell (p := ⟨_, 0, none⟩) HN.out _).setCell (p := ⟨_, 1, none⟩) HN.out _).setCell (p := ⟨_, 2, none⟩) HN.out _).setCell (p := ⟨_, 3, none⟩) HN.out _⟩
set_option maxRecDepth 100000 in
set_option maxHeartbeats 8000000 in
theorem rclass_6 (k0 : Nat) (d0 : List UInt8) (n0 : Int) (q0 : Nat) (k1 : Nat) (d1 : List UInt8) (n1 : Int) (q1 : Nat) (k2 : Nat) (d2 : List UInt8) (n2 : Int) (q2 : Nat) (k3 : Nat) (d3 : List UInt8) (n3 : Int) (q3 : Nat) (k4 : Nat) (d4 : List UInt8) (n4 : Int) (q4 : Nat) (z : Tok) (A : Option Addr) (c B : Nat) (at_ : Int) (w : World) (hr : Rd w B A (ct [(k0, d0, n0, q0), (k1, d1, n1, q1), (k2, d2, n2, q2), (k3, d3, n3, q3), (k4, d4, n4, q4), z])) (hB : B ≤ w.heap.size) (hc : 6 ≤ c) (hs : d4.length ≤ 16777216) (hs2 : d2.length ≤ 16777216) :
    Calls Tryz.prog 21 #[.slice A 6 c, .int .i64 at_] w (ClsPost [(k0, d0, n0, q0), (k1, d1, n1, q1), (k2, d2, n2, q2), (k3, d3, n3, q3), (k4, d4, n4, q4), z] at_ w) := by
  obtain ⟨b, off, rfl, hb, a0, a1, _, _⟩ := rdK_at (k := 0) hr (by simp) rfl
  have HH := Lib.hid (ClW.make hr hB hb)
  have HR : Hid (classL [(k0, d0, n0, q0), (k1, d1, n1, q1), (k2, d2, n2, q2), (k3, d3, n3, q3), (k4, d4, n4, q4), z] = if k0 = 1 ∧ isT (k1, d1, n1, q1) 2 subL = true ∧ k2 = 5 ∧ isT (k3, d3, n3, q3) 2 fldL = true ∧ k4 = 4 then some (d2, d0, d4) else none) := Lib.hid rfl
  clear a0 a1
  obtain ⟨xs, hxs⟩ : ∃ xs, [(k0, d0, n0, q0), (k1, d1, n1, q1), (k2, d2, n2, q2), (k3, d3, n3, q3), (k4, d4, n4, q4), z] = xs := ⟨_, rfl⟩
  go_enter Tryz.func21, Tryz.ntmps21
  go_upto_region 1 with fail
  generalize w.alloc (.cells #[.string ⟨#[]⟩, .string ⟨#[]⟩, .slice none 0 0, .int .i64 0] 40) = w1 at *
  obtain ⟨C, hC⟩ : ∃ C, w.heap.size = C := ⟨_, rfl⟩
  have HH1 : Hid (ClW w w1 C B b off [(k0, d0, n0, q0), (k1, d1, n1, q1), (k2, d2, n2, q2), (k3, d3, n3, q3), (k4, d4, n4, q4), z]) := Lib.hid (by rw [← hC]; exact HH.out)
  clear HH hr hxs
  simp only [hC]
  have a0 := tok_cells HH1.out.rd (k := 0) (by simp) rfl
  have a1 := tok_cells HH1.out.rd (k := 1) (by simp) rfl
  have a2 := tok_cells HH1.out.rd (k := 2) (by simp) rfl
  have a3 := tok_cells HH1.out.rd (k := 3) (by simp) rfl
  have a4 := tok_cells HH1.out.rd (k := 4) (by simp) rfl
  simp only [Nat.zero_mul, Nat.one_mul, Nat.add_zero, show 2 * 4 = 8 from rfl, show 3 * 4 = 12 from rfl, show 4 * 4 = 16 from rfl] at a0 a1 a2 a3 a4
  have af := cells4L HH1.out.res
  have al := lt_of_blk HH1.out.res
  have ab := HH1.out.hi
  by_cases hk0 : k0 = 1
  case neg =>
    have HE := Lib.hid (HR.out.trans (if_neg (fun h => hk0 h.1)))
    have hkb : ((k0 : Int) != 1) = true := by rw [bne_iff_ne]; omega
    clear HR hk0
    go_wp2_with fail
    obtain ⟨g1, g2⟩ := HH1.out.fin (.string ⟨#[]⟩) (.string ⟨#[]⟩) (.slice none 0 0) (.int .i64 0)
    refine bodyPost_ret (v := .tuple #[.agg #[.string ⟨#[]⟩, .string ⟨#[]⟩, .slice none 0 0, .int .i64 0], .bool false]) (rcls_result g1 rfl rfl) rfl ?_
    exact ⟨by subst hC; exact g2, .inl ⟨HE.out, rfl⟩⟩
  have hkb : ((k0 : Int) != 1) = false := by rw [bne_eq_false_iff_eq]; omega
  have his := ris_any (k1 : Int) (mkB d1) n1 (q1 : Int) 2 (mkB subL) w1
  rw [show (((k1 : Nat) : Int) == 2 && (mkB d1).toList == (mkB subL).toList) = isT (k1, d1, n1, q1) 2 subL from isT_eq k1 subL d1 n1 q1 2, show (mkB subL) = (⟨#[115, 117, 98, 99, 108, 97, 115, 115, 58]⟩ : ByteArray) from rfl] at his
  have his2 := fun w => ris_any (k3 : Int) (mkB d3) n3 (q3 : Int) 2 (mkB fldL) w
  rw [show (((k3 : Nat) : Int) == 2 && (mkB d3).toList == (mkB fldL).toList) = isT (k3, d3, n3, q3) 2 fldL from isT_eq k3 fldL d3 n3 q3 2, show (mkB fldL) = (⟨#[102, 105, 101, 108, 100, 115, 58]⟩ : ByteArray) from rfl] at his2
  have HR1 := Lib.hid (show classL [(k0, d0, n0, q0), (k1, d1, n1, q1), (k2, d2, n2, q2), (k3, d3, n3, q3), (k4, d4, n4, q4), z] = if isT (k1, d1, n1, q1) 2 subL = true ∧ k2 = 5 ∧ isT (k3, d3, n3, q3) 2 fldL = true ∧ k4 = 4 then some (d2, d0, d4) else none by rw [HR.out]; simp [hk0])
  clear HR hk0
  go_wp2_with fail
  refine his.mono ?_
  rintro e w2 ⟨rfl, hb2⟩
  have HH2 := Lib.hid (HH1.out.below hb2)
  clear a0 a1 a2 a3 a4 af al ab
  clear his hb2
  have b0 := tok_cells HH2.out.rd (k := 0) (by simp) rfl
  have b1 := tok_cells HH2.out.rd (k := 1) (by simp) rfl
  have b2 := tok_cells HH2.out.rd (k := 2) (by simp) rfl
  have b3 := tok_cells HH2.out.rd (k := 3) (by simp) rfl
  have b4 := tok_cells HH2.out.rd (k := 4) (by simp) rfl
  simp only [Nat.zero_mul, Nat.one_mul, Nat.add_zero, show 2 * 4 = 8 from rfl, show 3 * 4 = 12 from rfl, show 4 * 4 = 16 from rfl] at b0 b1 b2 b3 b4
  have bf := cells4L HH2.out.res
  have bl := lt_of_blk HH2.out.res
  have bb := HH2.out.hi
  cases hv : isT (k1, d1, n1, q1) 2 subL
  · have HE := Lib.hid (show classL [(k0, d0, n0, q0), (k1, d1, n1, q1), (k2, d2, n2, q2), (k3, d3, n3, q3), (k4, d4, n4, q4), z] = none by rw [HR1.out, hv]; simp)
    clear HR1 hv his2
    go_wp2_with fail
    obtain ⟨g1, g2⟩ := HH2.out.fin (.string ⟨#[]⟩) (.string ⟨#[]⟩) (.slice none 0 0) (.int .i64 0)
    refine bodyPost_ret (v := .tuple #[.agg #[.string ⟨#[]⟩, .string ⟨#[]⟩, .slice none 0 0, .int .i64 0], .bool false]) (rcls_result g1 rfl rfl) rfl ?_
    exact ⟨by subst hC; exact g2, .inl ⟨HE.out, rfl⟩⟩
  have HR2 := Lib.hid (show classL [(k0, d0, n0, q0), (k1, d1, n1, q1), (k2, d2, n2, q2), (k3, d3, n3, q3), (k4, d4, n4, q4), z] = if k2 = 5 ∧ isT (k3, d3, n3, q3) 2 fldL = true ∧ k4 = 4 then some (d2, d0, d4) else none by rw [HR1.out, hv]; simp)
  clear HR1 hv
  by_cases hk2 : k2 = 5
  case neg =>
    have HE := Lib.hid (HR2.out.trans (if_neg (fun h => hk2 h.1)))
    have hkb2 : ((k2 : Int) != 5) = true := by rw [bne_iff_ne]; omega
    clear HR2 hk2 his2
    go_wp2_with fail
    obtain ⟨g1, g2⟩ := HH2.out.fin (.string ⟨#[]⟩) (.string ⟨#[]⟩) (.slice none 0 0) (.int .i64 0)
    refine bodyPost_ret (v := .tuple #[.agg #[.string ⟨#[]⟩, .string ⟨#[]⟩, .slice none 0 0, .int .i64 0], .bool false]) (rcls_result g1 rfl rfl) rfl ?_
    exact ⟨by subst hC; exact g2, .inl ⟨HE.out, rfl⟩⟩
  have hkb2 : ((k2 : Int) != 5) = false := by rw [bne_eq_false_iff_eq]; omega
  have HR3 := Lib.hid (show classL [(k0, d0, n0, q0), (k1, d1, n1, q1), (k2, d2, n2, q2), (k3, d3, n3, q3), (k4, d4, n4, q4), z] = if isT (k3, d3, n3, q3) 2 fldL = true ∧ k4 = 4 then some (d2, d0, d4) else none by rw [HR2.out]; simp [hk2])
  clear HR2 hk2
  go_wp2_with fail
  refine (his2 _).mono ?_
  rintro e w3 ⟨rfl, hb3⟩
  have HH3 := Lib.hid (HH2.out.below hb3)
  clear b0 b1 b2 b3 b4 bf bl bb
  clear his2 hb3
  have c0 := tok_cells HH3.out.rd (k := 0) (by simp) rfl
  have c1 := tok_cells HH3.out.rd (k := 1) (by simp) rfl
  have c2 := tok_cells HH3.out.rd (k := 2) (by simp) rfl
  have c3 := tok_cells HH3.out.rd (k := 3) (by simp) rfl
  have c4 := tok_cells HH3.out.rd (k := 4) (by simp) rfl
  simp only [Nat.zero_mul, Nat.one_mul, Nat.add_zero, show 2 * 4 = 8 from rfl, show 3 * 4 = 12 from rfl, show 4 * 4 = 16 from rfl] at c0 c1 c2 c3 c4
  have cf := cells4L HH3.out.res
  have cl := lt_of_blk HH3.out.res
  have cb := HH3.out.hi
  cases hv : isT (k3, d3, n3, q3) 2 fldL
  · have HE := Lib.hid (show classL [(k0, d0, n0, q0), (k1, d1, n1, q1), (k2, d2, n2, q2), (k3, d3, n3, q3), (k4, d4, n4, q4), z] = none by rw [HR3.out, hv]; simp)
    clear HR3 hv
    go_wp2_with fail
    obtain ⟨g1, g2⟩ := HH3.out.fin (.string ⟨#[]⟩) (.string ⟨#[]⟩) (.slice none 0 0) (.int .i64 0)
    refine bodyPost_ret (v := .tuple #[.agg #[.string ⟨#[]⟩, .string ⟨#[]⟩, .slice none 0 0, .int .i64 0], .bool false]) (rcls_result g1 rfl rfl) rfl ?_
    exact ⟨by subst hC; exact g2, .inl ⟨HE.out, rfl⟩⟩
  have HR4 := Lib.hid (show classL [(k0, d0, n0, q0), (k1, d1, n1, q1), (k2, d2, n2, q2), (k3, d3, n3, q3), (k4, d4, n4, q4), z] = if k4 = 4 then some (d2, d0, d4) else none by rw [HR3.out, hv]; simp)
  clear HR3 hv
  by_cases hk4 : k4 = 4
  case neg =>
    have HE := Lib.hid (HR4.out.trans (if_neg hk4))
    have hkb4 : ((k4 : Int) != 4) = true := by rw [bne_iff_ne]; omega
    clear HR4 hk4
    go_wp2_with fail
    obtain ⟨g1, g2⟩ := HH3.out.fin (.string ⟨#[]⟩) (.string ⟨#[]⟩) (.slice none 0 0) (.int .i64 0)
    refine bodyPost_ret (v := .tuple #[.agg #[.string ⟨#[]⟩, .string ⟨#[]⟩, .slice none 0 0, .int .i64 0], .bool false]) (rcls_result g1 rfl rfl) rfl ?_
    exact ⟨by subst hC; exact g2, .inl ⟨HE.out, rfl⟩⟩
  have hkb4 : ((k4 : Int) != 4) = false := by rw [bne_eq_false_iff_eq]; omega
  have HE := Lib.hid (HR4.out.trans (if_pos hk4))
  clear HR4 hk4
  go_upto_region 3 with fail
  have HWd : Hid (∀ w : World, Calls Tryz.prog 39 #[.string ⟨d4.toArray⟩] w fun e w' => Below w.heap.size w w' ∧ ∃ A c, e = .returned (.slice A (wordsA [] d4).length c) ∧ OwnS w' w.heap.size (.slice A (wordsA [] d4).length c) (wordsA [] d4)) := Lib.hid (fun w => by
    have h := rwords_any (mkB d4) w (by show d4.toArray.size ≤ _; simpa using hs)
    unfold WordsPost at h
    rw [show sb (mkB d4) = d4 from by simp [sb, mkB]] at h
    exact h)
  go_cut [6] from 48 (fun v6 wx => ∃ P A2 e2, v6 = .pointer (some ⟨P, 0, none⟩) ∧ Hid (wx.heap[P]? = some (.cells #[.string (mkB d2), .string (mkB d0), .slice A2 (wordsA [] d4).length e2, .int .i64 at_] 40 (0, 0)) ∧ w.heap.size ≤ P ∧ P ≠ C) ∧ Hid ((Value.slice A2 (wordsA [] d4).length e2).ownBlock ≠ some P) ∧ Hid (OwnS wx (C + 1) (.slice A2 (wordsA [] d4).length e2) (wordsA [] d4)) ∧ Hid (ClW w wx C B b off [(k0, d0, n0, q0), (k1, d1, n1, q1), (k2, d2, n2, q2), (k3, d3, n3, q3), (k4, d4, n4, q4), z]))
  case first =>
    have hS : (fun w' : World => w'.cell? ⟨b, off + 8 + 1, none⟩ = some (.string ⟨d2.toArray⟩) ∧ w'.cell? ⟨b, off + 1, none⟩ = some (.string ⟨d0.toArray⟩) ∧ w'.cell? ⟨b, off + 16 + 1, none⟩ = some (.string ⟨d4.toArray⟩)) w3.drew := ⟨c2.2.1, c0.2.1, c4.2.1⟩
    have hSb : ∀ w' : World, Below w3.heap.size w3 w' → (fun w' : World => w'.cell? ⟨b, off + 8 + 1, none⟩ = some (.string ⟨d2.toArray⟩) ∧ w'.cell? ⟨b, off + 1, none⟩ = some (.string ⟨d0.toArray⟩) ∧ w'.cell? ⟨b, off + 16 + 1, none⟩ = some (.string ⟨d4.toArray⟩)) w' := fun w' h => ⟨(h.cell (p := ⟨b, _, none⟩) cb).trans c2.2.1, (h.cell (p := ⟨b, _, none⟩) cb).trans c0.2.1, (h.cell (p := ⟨b, _, none⟩) cb).trans c4.2.1⟩
    have HSb := Lib.hid hSb
    have HS := Lib.hid hS
    clear c0 c1 c2 c3 c4 cf hSb hS
    refine wp_region_noPanic ?_
    refine wp_region_held_drew (S := (fun w' : World => w'.cell? ⟨b, off + 8 + 1, none⟩ = some (.string ⟨d2.toArray⟩) ∧ w'.cell? ⟨b, off + 1, none⟩ = some (.string ⟨d0.toArray⟩) ∧ w'.cell? ⟨b, off + 16 + 1, none⟩ = some (.string ⟨d4.toArray⟩))) (by kernel_rfl) HS.out (fun hHeld => ?_)
    refine wpAnyH_take (i := 0) (v := ?_) (by first | (simp only [List.getElem?_toArray, List.getElem?_cons_succ, List.getElem?_cons_zero]; rfl) | rfl) (by kernel_rfl) (by kernel_rfl) (by kernel_rfl) (fun _ _ _ h => h) (Or.inl ⟨by rfl, ?_⟩) (by assumption) ?_
    rotate_left 1
    · (intro w' hSw; (try dsimp only at hSw); go_simp; (try with_reducible rfl))
    try simp only [Act.put, List.setIfInBounds_toArray, List.set_cons_zero, List.set_cons_succ]
    refine wpAnyH_take (i := 1) (v := ?_) (by first | (simp only [List.getElem?_toArray, List.getElem?_cons_succ, List.getElem?_cons_zero]; rfl) | rfl) (by kernel_rfl) (by kernel_rfl) (by kernel_rfl) (fun _ _ _ h => h) (Or.inl ⟨by rfl, ?_⟩) (by assumption) ?_
    rotate_left 1
    · (intro w' hSw; (try dsimp only at hSw); go_simp; (try with_reducible rfl))
    try simp only [Act.put, List.setIfInBounds_toArray, List.set_cons_zero, List.set_cons_succ]
    refine wpAnyH_take (i := 2) (v := ?_) (by first | (simp only [List.getElem?_toArray, List.getElem?_cons_succ, List.getElem?_cons_zero]; rfl) | rfl) (by kernel_rfl) (by kernel_rfl) (by kernel_rfl) (fun _ _ _ h => h) (Or.inl ⟨by rfl, ?_⟩) (by assumption) ?_
    rotate_left 1
    · (intro w' hSw; (try dsimp only at hSw); go_simp; (try with_reducible rfl))
    try simp only [Act.put, List.setIfInBounds_toArray, List.set_cons_zero, List.set_cons_succ]
    refine wpAnyH_take (i := 3) (v := ?_) (by first | (simp only [List.getElem?_toArray, List.getElem?_cons_succ, List.getElem?_cons_zero]; rfl) | rfl) (by kernel_rfl) (by kernel_rfl) (by kernel_rfl) (fun _ _ _ h => h) (Or.inl ⟨by rfl, ?_⟩) (by assumption) ?_
    rotate_left 1
    · (intro w' hSw; (try dsimp only at hSw); go_simp; (try with_reducible rfl))
    try simp only [Act.put, List.setIfInBounds_toArray, List.set_cons_zero, List.set_cons_succ]
    refine wpAnyH_take (i := 4) (v := ?_) (by first | (simp only [List.getElem?_toArray, List.getElem?_cons_succ, List.getElem?_cons_zero]; rfl) | rfl) (by kernel_rfl) (by kernel_rfl) (by kernel_rfl) (fun _ _ _ h => h) (Or.inl ⟨by rfl, ?_⟩) (by assumption) ?_
    rotate_left 1
    · (intro w' hSw; (try dsimp only at hSw); go_simp; (try with_reducible rfl))
    try simp only [Act.put, List.setIfInBounds_toArray, List.set_cons_zero, List.set_cons_succ]
    refine wpAnyH_take (i := 5) (v := ?_) (by first | (simp only [List.getElem?_toArray, List.getElem?_cons_succ, List.getElem?_cons_zero]; rfl) | rfl) (by kernel_rfl) (by kernel_rfl) (by kernel_rfl) (fun _ _ _ h => h) (Or.inl ⟨by rfl, ?_⟩) (by assumption) ?_
    rotate_left 1
    · (intro w' hSw; (try dsimp only at hSw); go_simp; (try with_reducible rfl))
    try simp only [Act.put, List.setIfInBounds_toArray, List.set_cons_zero, List.set_cons_succ]
    refine wpAnyH_take (i := 6) (v := ?_) (by first | (simp only [List.getElem?_toArray, List.getElem?_cons_succ, List.getElem?_cons_zero]; rfl) | rfl) (by kernel_rfl) (by kernel_rfl) (by kernel_rfl) (fun _ _ _ h => h) (Or.inl ⟨by rfl, ?_⟩) (by assumption) ?_
    rotate_left 1
    · (intro w' hSw; (try dsimp only at hSw); go_simp; (try with_reducible rfl))
    try simp only [Act.put, List.setIfInBounds_toArray, List.set_cons_zero, List.set_cons_succ]
    refine wpAnyH_take (i := 7) (v := ?_) (by first | (simp only [List.getElem?_toArray, List.getElem?_cons_succ, List.getElem?_cons_zero]; rfl) | rfl) (by kernel_rfl) (by kernel_rfl) (by kernel_rfl) (fun _ _ _ h => h) (Or.inl ⟨by rfl, ?_⟩) (by assumption) ?_
    rotate_left 1
    · (intro w' hSw; (try dsimp only at hSw); go_simp; (try with_reducible rfl))
    try simp only [Act.put, List.setIfInBounds_toArray, List.set_cons_zero, List.set_cons_succ]
    refine wpAnyH_take (i := 8) (v := ?_) (by first | (simp only [List.getElem?_toArray, List.getElem?_cons_succ, List.getElem?_cons_zero]; rfl) | rfl) (by kernel_rfl) (by kernel_rfl) (by kernel_rfl) (fun _ _ _ h => h) (Or.inl ⟨by rfl, ?_⟩) (by assumption) ?_
    rotate_left 1
    · (intro w' hSw; (try dsimp only at hSw); go_simp; (try with_reducible rfl))
    try simp only [Act.put, List.setIfInBounds_toArray, List.set_cons_zero, List.set_cons_succ]
    refine wpAnyH_take (i := 9) (v := ?_) (by first | (simp only [List.getElem?_toArray, List.getElem?_cons_succ, List.getElem?_cons_zero]; rfl) | rfl) (by kernel_rfl) (by kernel_rfl) (by kernel_rfl) (fun _ _ _ h => h) (Or.inl ⟨by rfl, ?_⟩) (by assumption) ?_
    rotate_left 1
    · (intro w' hSw; (try dsimp only at hSw); go_simp; (try with_reducible rfl))
    try simp only [Act.put, List.setIfInBounds_toArray, List.set_cons_zero, List.set_cons_succ]
    refine wpAnyH_take (i := 10) (v := ?_) (by first | (simp only [List.getElem?_toArray, List.getElem?_cons_succ, List.getElem?_cons_zero]; rfl) | rfl) (by kernel_rfl) (by kernel_rfl) (by kernel_rfl) (fun _ _ _ h => h) (Or.inl ⟨by rfl, ?_⟩) (by assumption) ?_
    rotate_left 1
    · (intro w' hSw; (try dsimp only at hSw); go_simp; (try with_reducible rfl))
    try simp only [Act.put, List.setIfInBounds_toArray, List.set_cons_zero, List.set_cons_succ]
    refine wpAnyH_take (i := 11) (v := ?_) (by first | (simp only [List.getElem?_toArray, List.getElem?_cons_succ, List.getElem?_cons_zero]; rfl) | rfl) (by kernel_rfl) (by kernel_rfl) (by kernel_rfl) (fun _ _ _ h => h) (Or.inl ⟨by rfl, ?_⟩) (by assumption) ?_
    rotate_left 1
    · (intro w' hSw; (try dsimp only at hSw); go_simp; (try with_reducible rfl))
    try simp only [Act.put, List.setIfInBounds_toArray, List.set_cons_zero, List.set_cons_succ]
    refine wpAnyH_take (i := 13) (v := ?_) (by first | (simp only [List.getElem?_toArray, List.getElem?_cons_succ, List.getElem?_cons_zero]; rfl) | rfl) (by kernel_rfl) (by kernel_rfl) (by kernel_rfl) (fun _ _ _ h => h) (Or.inl ⟨by rfl, ?_⟩) (by assumption) ?_
    rotate_left 1
    · (intro w' hSw; (try dsimp only at hSw); go_simp; (try with_reducible rfl))
    try simp only [Act.put, List.setIfInBounds_toArray, List.set_cons_zero, List.set_cons_succ]
    have HZ := Lib.hid (fun w4 : World => heap_alloc_new w4 (.cells #[.string ⟨#[]⟩, .string ⟨#[]⟩, .slice none 0 0, .int .i64 0] 40))
    have HD := Lib.hid (show Below w3.heap.size w3 w3.drew from (Below.refl _ _).drew)
    have hca : (AllReadyH Tryz.prog Region.Mode.any) = (AllReadyH Tryz.prog Region.Mode.any) := rfl
    clear hca
    refine wpAnyH_ready (rs := [12, 15]) (by kernel_rfl) (by simp) ?_
    refine AllReadyH.cons (by first | (simp only [List.getElem?_toArray, List.getElem?_cons_succ, List.getElem?_cons_zero]; rfl) | rfl) (fun K hK => ?_) (AllReadyH.cons (by first | (simp only [List.getElem?_toArray, List.getElem?_cons_succ, List.getElem?_cons_zero]; rfl) | rfl) (fun K hK => ?_) AllReadyH.nil)
    · go_simp
      refine (HWd.out _).mono ?_
      rintro e w4 ⟨hb4, A2, e2, rfl, hO⟩
      dsimp only
      have HB4 := Lib.hid (HD.out.trans hb4)
      have HO := Lib.hid hO
      clear hb4 hO
      refine hK.out _ _ (HSb.out _ HB4.out) (fun hHeld => ?_)
      clear hK K
      try simp only [Act.put, List.setIfInBounds_toArray, List.set_cons_zero, List.set_cons_succ]
      refine wpAnyH_take (i := 14) (v := ?_) (by first | (simp only [List.getElem?_toArray, List.getElem?_cons_succ, List.getElem?_cons_zero]; rfl) | rfl) (by kernel_rfl) (by kernel_rfl) (by kernel_rfl) (fun _ _ _ h => h) (Or.inl ⟨by rfl, ?_⟩) (by assumption) ?_
      rotate_left 1
      · (intro w' hSw; (try dsimp only at hSw); go_simp; (try with_reducible rfl))
      try simp only [Act.put, List.setIfInBounds_toArray, List.set_cons_zero, List.set_cons_succ]
      refine wpAnyH_ready (rs := [15]) (by kernel_rfl) (by simp) ?_
      refine AllReadyH.cons (by first | (simp only [List.getElem?_toArray, List.getElem?_cons_succ, List.getElem?_cons_zero]; rfl) | rfl) (fun K hK => ?_) AllReadyH.nil
      go_simp
      have HB5 := Lib.hid (HB4.out.alloc HB4.out.size (.cells #[.string ⟨#[]⟩, .string ⟨#[]⟩, .slice none 0 0, .int .i64 0] 40))
      have HO5 := Lib.hid ((HO.out.wide (base' := C + 1) (Nat.le_trans cl HD.out.size)).below ((Below.refl w4.heap.size w4).alloc (Nat.le_refl _) (.cells #[.string ⟨#[]⟩, .string ⟨#[]⟩, .slice none 0 0, .int .i64 0] 40)))
      have HNe : Hid ((Value.slice A2 (wordsA [] d4).length e2).ownBlock ≠ some w4.heap.size) := Lib.hid (fun e => Nat.lt_irrefl _ (World.ownsRow.lt HO.out _ e).2)
      refine hK.out _ _ (HSb.out _ HB5.out) (fun hHeld => ?_)
      clear hK K
      try simp only [Act.put, List.setIfInBounds_toArray, List.set_cons_zero, List.set_cons_succ]
      have HP := Lib.hid (HZ.out w4)
      have HPl := Lib.hid HB4.out.size
      clear HO HB4 HZ
      generalize w4.alloc (.cells #[.string ⟨#[]⟩, .string ⟨#[]⟩, .slice none 0 0, .int .i64 0] 40) = w5 at *
      generalize w4.heap.size = P at *
      have f5 := cells4L HP.out
      have l5 := lt_of_blk HP.out
      refine wpAnyH_ready (rs := [16]) (by kernel_rfl) (by simp) ?_
      refine AllReadyH.cons (by first | (simp only [List.getElem?_toArray, List.getElem?_cons_succ, List.getElem?_cons_zero]; rfl) | rfl) (fun K hK => ?_) AllReadyH.nil
      go_simp
      obtain ⟨g1, g2, g3, g4⟩ := ClW.put HH3.out HB5.out HP.out HPl.out HO5.out HNe.out (.string ⟨d2.toArray⟩) (.string ⟨d0.toArray⟩) (.slice A2 (wordsA [] d4).length e2) (.int .i64 at_)
      refine hK.out _ _ (HSb.out _ g1) (fun hHeld => ?_)
      clear hK K
      try simp only [Act.put, List.setIfInBounds_toArray, List.set_cons_zero, List.set_cons_succ]
      refine wpAnyH_done (by kernel_rfl) ?_ _
      refine NoPanic.normal ?_
      have G2 := Lib.hid g2
      have G3 := Lib.hid g3
      have G4 := Lib.hid g4
      clear g1 g2 g3 g4 hHeld f5 l5
      go_wp2_with fail
      go_meet
      exact ⟨P, A2, e2, rfl, G2, HNe, G3, G4⟩
    · go_simp
      have HB4 := Lib.hid (((Below.refl w3.heap.size w3).alloc (Nat.le_refl _) (.cells #[.string ⟨#[]⟩, .string ⟨#[]⟩, .slice none 0 0, .int .i64 0] 40)).drew)
      refine hK.out _ _ (HSb.out _ HB4.out) (fun hHeld => ?_)
      clear hK K
      try simp only [Act.put, List.setIfInBounds_toArray, List.set_cons_zero, List.set_cons_succ]
      have HP4 := Lib.hid (show (w3.alloc (.cells #[.string ⟨#[]⟩, .string ⟨#[]⟩, .slice none 0 0, .int .i64 0] 40)).drew.heap[w3.heap.size]? = _ from HZ.out w3)
      obtain ⟨P, hPe⟩ : ∃ P, w3.heap.size = P := ⟨_, rfl⟩
      have HPl := Lib.hid (Nat.le_of_eq hPe)
      clear HZ
      generalize (w3.alloc (.cells #[.string ⟨#[]⟩, .string ⟨#[]⟩, .slice none 0 0, .int .i64 0] 40)).drew = w4 at *
      rw [hPe] at HP4
      simp only [hPe]
      have HPe := Lib.hid hPe
      clear hPe
      refine wpAnyH_ready (rs := [12]) (by kernel_rfl) (by simp) ?_
      refine AllReadyH.cons (by first | (simp only [List.getElem?_toArray, List.getElem?_cons_succ, List.getElem?_cons_zero]; rfl) | rfl) (fun K hK => ?_) AllReadyH.nil
      go_simp
      refine (HWd.out _).mono ?_
      rintro e w5 ⟨hb5, A2, e2, rfl, hO⟩
      dsimp only
      have HB5 := Lib.hid (HB4.out.trans (hb5.mono HB4.out.size))
      have HP := Lib.hid ((hb5.block P (lt_of_blk HP4.out)).trans HP4.out)
      have HO5 := Lib.hid (hO.wide (base' := C + 1) (Nat.le_trans cl HB4.out.size))
      have HNe : Hid ((Value.slice A2 (wordsA [] d4).length e2).ownBlock ≠ some P) := Lib.hid (fun e => by have h1 := (World.ownsRow.lt hO _ e).1; have h2 := lt_of_blk HP4.out; omega)
      clear hb5 hO
      refine hK.out _ _ (HSb.out _ HB5.out) (fun hHeld => ?_)
      clear hK K
      try simp only [Act.put, List.setIfInBounds_toArray, List.set_cons_zero, List.set_cons_succ]
      refine wpAnyH_take (i := 14) (v := ?_) (by first | (simp only [List.getElem?_toArray, List.getElem?_cons_succ, List.getElem?_cons_zero]; rfl) | rfl) (by kernel_rfl) (by kernel_rfl) (by kernel_rfl) (fun _ _ _ h => h) (Or.inl ⟨by rfl, ?_⟩) (by assumption) ?_
      rotate_left 1
      · (intro w' hSw; (try dsimp only at hSw); go_simp; (try with_reducible rfl))
      try simp only [Act.put, List.setIfInBounds_toArray, List.set_cons_zero, List.set_cons_succ]
      have f5 := cells4L HP.out
      have l5 := lt_of_blk HP.out
      refine wpAnyH_ready (rs := [16]) (by kernel_rfl) (by simp) ?_
      refine AllReadyH.cons (by first | (simp only [List.getElem?_toArray, List.getElem?_cons_succ, List.getElem?_cons_zero]; rfl) | rfl) (fun K hK => ?_) AllReadyH.nil
      go_simp
      obtain ⟨g1, g2, g3, g4⟩ := ClW.put HH3.out HB5.out HP.out HPl.out HO5.out HNe.out (.string ⟨d2.toArray⟩) (.string ⟨d0.toArray⟩) (.slice A2 (wordsA [] d4).length e2) (.int .i64 at_)
      refine hK.out _ _ (HSb.out _ g1) (fun hHeld => ?_)
      clear hK K
      try simp only [Act.put, List.setIfInBounds_toArray, List.set_cons_zero, List.set_cons_succ]
      refine wpAnyH_done (by kernel_rfl) ?_ _
      refine NoPanic.normal ?_
      have G2 := Lib.hid g2
      have G3 := Lib.hid g3
      have G4 := Lib.hid g4
      clear g1 g2 g3 g4 hHeld f5 l5
      go_wp2_with fail
      go_meet
      exact ⟨P, A2, e2, rfl, G2, HNe, G3, G4⟩
  case rest =>
    obtain ⟨P, A2, e2, rfl, HP, HNe, HO, HW⟩ := hcut
    clear c0 c1 c2 c3 c4 cf cl cb
    have f := cells4L HP.out.1
    have l := lt_of_blk HP.out.1
    have HNm := Lib.hid (fun (l : List UInt8) (hl : l.length ≤ 16777216) (w : World) => rnamed_any (mkB l) w (by show l.toArray.size ≤ _; simpa using hl))
    go_upto_if 65 with fail
    go_cut [] from 66 (fun wx => ∃ sp, Hid (sp = supN d0) ∧ Hid (wx.heap[P]? = some (.cells #[.string (mkB d2), .string (mkB sp), .slice A2 (wordsA [] d4).length e2, .int .i64 at_] 40 (0, 0))) ∧ Hid (OwnS wx (C + 1) (.slice A2 (wordsA [] d4).length e2) (wordsA [] d4)) ∧ Hid (ClW w wx C B b off [(k0, d0, n0, q0), (k1, d1, n1, q1), (k2, d2, n2, q2), (k3, d3, n3, q3), (k4, d4, n4, q4), z]))
    case first =>
      go_wp2_with fail
      · go_meet
        have hq : (d0 == [110, 105, 108]) = true := by assumption
        have hq2 : d0 = nilL := beq_iff_eq.1 hq
        refine ⟨[], Lib.hid (by rw [hq2]; rfl), Lib.hid ?_, Lib.hid (HO.out.cell HNe.out _), Lib.hid (HW.out.one HP.out.2.1 HP.out.2.2 _ _)⟩
        exact heap_setCell_same _ P 1 _ _ _ HP.out.1
      · go_meet
        have hq : (d0 == [110, 105, 108]) = false := by assumption
        have hq2 : ¬ d0 = nilL := beq_eq_false_iff_ne.1 hq
        exact ⟨d0, Lib.hid (by rw [supN, if_neg hq2]), Lib.hid HP.out.1, HO, HW⟩
    case rest =>
    obtain ⟨sp, HSp, HP2, HO2, HW2⟩ := hcut
    clear f l HO HW
    have f := cells4L HP2.out
    have l := lt_of_blk HP2.out
    obtain ⟨ws, hws⟩ : ∃ ws, wordsA [] d4 = ws := ⟨_, rfl⟩
    have hwl : ws.length ≤ 16777217 := by rw [← hws]; have := wordsA_cnt d4 []; omega
    have HLe := Lib.hid (fun x (hx : x ∈ ws) => show x.length ≤ 16777216 by have := wordsA_le d4 [] x (by rw [hws]; exact hx); simp at this; omega)
    simp only [hws] at HP2 HO2 f
    have HWs := Lib.hid hws
    clear hws HNe
    obtain ⟨hrd, _, _, hcc⟩ := ownS_rd HO2.out
    have HRd := Lib.hid hrd
    clear hrd
    obtain ⟨t0, ht0⟩ : ∃ t, (arityL (mkB d2) == 0) = t := ⟨_, rfl⟩
    have HT0 := Lib.hid ht0
    clear ht0
    have h2 := HNm.out d2 hs2 wc
    rw [HT0.out] at h2
    have HPc := Lib.hid HP.out.2
    clear HP
    go_wp2_with fail
    refine h2.mono ?_
    rintro e w' ⟨rfl, rfl⟩
    clear h2
    go_wp2_with fail
    go_loopw [7, 8] (fun v7 v8 wr => ∃ i : Nat, i ≤ ws.length ∧ v7 = .bool (t0 && namesOk (ws.take i)) ∧ v8 = .int .i64 (i : Int) ∧ wc = wr) (fun _ v8 _ => ws.length - (intOf v8).toNat)
    case atStart => exact ⟨0, Nat.zero_le _, by simp [namesOk], rfl, rfl⟩
    case round =>
      obtain ⟨i, hi, rfl, rfl, rfl⟩ := hrel
      by_cases hl2 : i < ws.length
      case neg =>
        have e : i = ws.length := by omega
        have hq : ¬ ((i : Int) < (ws.length : Int)) := by omega
        have HE2 := Lib.hid (show namesOk (ws.take i) = namesOk ws by rw [e, List.take_length])
        clear e
        have fC := cells4L HW2.out.res
        have lC := lt_of_blk HW2.out.res
        go_wp2_with fail
        obtain ⟨g1, g2⟩ := HW2.out.fin (.string (mkB d2)) (.string (mkB sp)) (.slice A2 ws.length e2) (.int .i64 at_)
        refine bodyPost_ret (v := .tuple #[.agg #[.string (mkB d2), .string (mkB sp), .slice A2 ws.length e2, .int .i64 at_], .bool (t0 && namesOk (ws.take i))]) (rcls_result g1 rfl rfl) rfl ?_
        refine ⟨by subst hC; exact g2, .inr ⟨d2, d0, d4, A2, e2, HE.out, ?_, ?_⟩⟩
        · rw [HWs.out, ← HSp.out, HE2.out]
          unfold clsOk
          rw [HT0.out, HWs.out]
        · rw [HWs.out]
          have hne : (Value.slice A2 ws.length e2).ownBlock ≠ some C := fun e => by have := (World.ownsRow.lt HO2.out _ e).1; omega
          exact OwnS.wide ((((HO2.out.cell hne _).cell hne _).cell hne _).cell hne _) (by omega)
      have hq : (i : Int) < (ws.length : Int) := by omega
      obtain ⟨r, ro, hA, hrb, hcell⟩ := rdS_at HRd.out hl2
      subst hA
      have HMo := Lib.hid (namesOk_more ws hl2)
      have h3 := HNm.out ws[i] (HLe.out _ (List.getElem_mem hl2)) wc
      obtain ⟨t2, ht2⟩ : ∃ t, (arityL (mkB ws[i]) == 0) = t := ⟨_, rfl⟩
      rw [ht2] at h3
      have HT2 := Lib.hid ht2
      clear ht2
      obtain ⟨t1, ht1⟩ : ∃ t, (t0 && namesOk (ws.take i)) = t := ⟨_, rfl⟩
      have HT1 := Lib.hid ht1
      simp only [ht1]
      clear ht1
      cases t1
      · go_wp2_with fail
        go_roundw
        case rel => exact ⟨i + 1, by omega, by rw [HMo.out, ← Bool.and_assoc, HT1.out]; rfl, rfl, trivial⟩
        case measure => simp [intOf]; omega
      · go_wp2_with (first | (go_at_call 31; refine h3.mono ?_; rintro e w' ⟨rfl, rfl⟩))
        go_roundw
        case rel => exact ⟨i + 1, by omega, by rw [HMo.out, ← Bool.and_assoc, HT1.out, HT2.out]; rfl, rfl, trivial⟩
        case measure => simp [intOf]; omega
theorem rclass_any (xs : List Tok) (A : Option Addr) (c B : Nat) (at_ : Int) (w : World) (hr : Rd w B A (ct xs)) (hB : B ≤ w.heap.size) (hc : xs.length ≤ c) (hs : ∀ x ∈ xs, x.2.1.length ≤ 16777216) :
    Calls Tryz.prog 21 #[.slice A xs.length c, .int .i64 at_] w (ClsPost xs at_ w) := by
  have ho : xs.length ≠ 6 → classL xs = none → Calls Tryz.prog 21 #[.slice A xs.length c, .int .i64 at_] w (ClsPost xs at_ w) := fun h6 hn =>
    (rclass_o xs.length h6 A c at_ w).mono (fun e w' h => ⟨h.2, .inl ⟨hn, h.1⟩⟩)
  match xs, hr, hc, hs, ho with
  | [(k0, d0, n0, q0), (k1, d1, n1, q1), (k2, d2, n2, q2), (k3, d3, n3, q3), (k4, d4, n4, q4), z], hr, hc, hs, _ =>
    exact rclass_6 k0 d0 n0 q0 k1 d1 n1 q1 k2 d2 n2 q2 k3 d3 n3 q3 k4 d4 n4 q4 z A c B at_ w hr hB hc (hs (k4, d4, n4, q4) (by simp)) (hs (k2, d2, n2, q2) (by simp))
  | [], _, _, _, ho => exact ho (by simp) rfl
  | [_], _, _, _, ho => exact ho (by simp) rfl
  | [_, _], _, _, _, ho => exact ho (by simp) rfl
  | [_, _, _], _, _, _, ho => exact ho (by simp) rfl
  | [_, _, _, _], _, _, _, ho => exact ho (by simp) rfl
  | [_, _, _, _, _], _, _, _, ho => exact ho (by simp) rfl
  | _ :: _ :: _ :: _ :: _ :: _ :: _ :: l, _, _, _, ho => exact ho (by simp) rfl
end Go.Proofs.YtponopcnndkalaaGreatDoor.Fl
