/-
  The program's trees: have two the same?
-/
import Derived.Test.YtfcceojfcmgmlaaGreatDoorTs2
import Derived.Deep.RegionHeld3
import Derived.Sort.BigQuietIn
import Derived.Lib.SlTrimSet
import Derived.Shelf.Strings.SlTrimAscii
import Derived.Laws.Runes
import Derived.WalkMore
import Derived.Lib.FieldsP
import Derived.Lib.DecodeN
namespace Go.Proofs.YtfcceojfcmgmlaaGreatDoor.Fl
open Go.RowKit Go.Shelf

theorem cells6T {w : World} {g : Nat} {v0 v1 v2 v3 v4 v5 : Value} {T : TypeId} (h : w.heap[g]? = some (.cells #[v0, v1, v2, v3, v4, v5] T (0, 0))) :
    w.cell? ⟨g, 0, none⟩ = some v0 ∧ w.cell? ⟨g, 1, none⟩ = some v1 ∧ w.cell? ⟨g, 2, none⟩ = some v2 ∧ w.cell? ⟨g, 3, none⟩ = some v3 ∧ w.cell? ⟨g, 4, none⟩ = some v4 ∧ w.cell? ⟨g, 5, none⟩ = some v5 ∧ ∀ k, w.frozen? ⟨g, k, none⟩ = false :=
  ⟨cell_of_row _ _ _ _ _ _ h, cell_of_row _ _ _ _ _ _ h, cell_of_row _ _ _ _ _ _ h, cell_of_row _ _ _ _ _ _ h, cell_of_row _ _ _ _ _ _ h, cell_of_row _ _ _ _ _ _ h, fun _ => frozen_of_row _ _ _ _ _ h⟩
theorem boxes2T (w : World) (x y : Obj) (W : World) (hW : (w.alloc x).alloc y = W) : W.heap[w.heap.size]? = some x ∧ W.heap[w.heap.size + 1]? = some y ∧ Below w.heap.size w W := by
  refine ⟨?_, ?_, ?_⟩
  · rw [← hW]; exact (Below.heap_alloc _ _ _ (by rw [World.size_alloc]; omega)).trans (heap_alloc_new w _)
  · rw [← hW, ← World.size_alloc w x]; exact heap_alloc_new _ _
  · rw [← hW]; exact ((Below.refl _ w).alloc (Nat.le_refl _) _).alloc (by rw [World.size_alloc]; omega) _
set_option maxRecDepth 100000 in
set_option maxHeartbeats 4000000 in
theorem equalNames_any (xs ys : List (List UInt8)) (A A' : Option Addr) (c c' B : Nat) (w : World) (h : SrAt w (Lo B) A xs) (h' : SrAt w (Lo B) A' ys) (hB : B ≤ w.heap.size) (hc : xs.length ≤ c) (hc' : ys.length ≤ c') (hl : c ≤ 9223372036854775807) (_hl' : c' ≤ 9223372036854775807) :
    Calls Tryz.prog 45 #[.slice A xs.length c, .slice A' ys.length c'] w fun e w' => e = .returned (.bool (xs == ys)) ∧ Below w.heap.size w w' := by
  have H1 := Lib.hid h
  have H2 := Lib.hid h'
  clear h h'
  go_enter Tryz.func45, Tryz.ntmps45
  by_cases hn : xs.length = ys.length
  case neg =>
    have hne : ((xs.length : Int) != (ys.length : Int)) = true := by rw [bne_iff_ne]; omega
    have HE := Lib.hid (show (xs == ys) = false from beq_eq_false_iff_ne.2 fun e => hn (by rw [e]))
    go_wp2_with fail
    go_ret
    exact ⟨by rw [HE.out]; rfl, Below.refl _ _⟩
  have hne : ((xs.length : Int) != (ys.length : Int)) = false := by rw [hn]; simp
  go_wp2_with fail
  go_loopw [13] (fun v wr => ∃ i : Nat, i ≤ xs.length ∧ v = .int .i64 (i : Int) ∧ Hid (xs.take i = ys.take i) ∧ Hid (Below w.heap.size w wr)) (fun v _ => xs.length - (intOf v).toNat)
  case atStart => exact ⟨0, Nat.zero_le _, rfl, Lib.hid rfl, Lib.hid (Below.refl _ _)⟩
  case round =>
    obtain ⟨i, hi, rfl, HT, HB⟩ := hrel
    by_cases hlt : i < xs.length
    case neg =>
      have hq : ¬ ((i : Int) < (xs.length : Int)) := by omega
      have HE := Lib.hid (show (xs == ys) = true by
        have h := HT.out
        rw [List.take_of_length_le (by omega), List.take_of_length_le (by omega)] at h
        rw [h]; simp)
      go_wp2_with fail
      go_ret
      exact ⟨by rw [HE.out]; rfl, HB.out⟩
    have hq : (i : Int) < (xs.length : Int) := by omega
    have hlt' : i < ys.length := by omega
    have hq' : (i : Int) < (ys.length : Int) := by omega
    obtain ⟨b, o, rfl, hb, hcell⟩ := (H1.out.below (HB.out.mono hB) (Nat.le_refl _)).get hlt
    obtain ⟨b', o', rfl, hb', hcell'⟩ := (H2.out.below (HB.out.mono hB) (Nat.le_refl _)).get hlt'
    have hbw : b < wr.heap.size := Nat.lt_of_lt_of_le hb (Nat.le_trans hB HB.out.size)
    have hbw' : b' < wr.heap.size := Nat.lt_of_lt_of_le hb' (Nat.le_trans hB HB.out.size)
    have HX := Lib.hid (show xs.take (i + 1) = xs.take i ++ [xs[i]] from List.take_succ_eq_append_getElem hlt)
    have HY := Lib.hid (show ys.take (i + 1) = ys.take i ++ [ys[i]] from List.take_succ_eq_append_getElem hlt')
    have HN := Lib.hid (show xs[i] ≠ ys[i] → xs ≠ ys from fun h e => h (by subst e; rfl))
    generalize xs[i] = x at *
    generalize ys[i] = y at *
    have HBn : ∀ n, Hid (Below w.heap.size w (wr.drewN n)) := fun n => Lib.hid (_root_.Go.below_drewN HB.out n)
    clear hb hb'
    by_cases he : x = y
    · have hb1 : (x == y) = true := by rw [he]; simp
      have HT2 := Lib.hid (show xs.take (i + 1) = ys.take (i + 1) by rw [HX.out, HY.out, HT.out, he])
      clear he HN
      go_upto_region 6 with fail
      go_quiet (fail)
      go_wp2_with fail
      go_roundw
      case rel => exact ⟨i + 1, by omega, by simp, HT2, HBn _⟩
      case measure => simp [intOf]; omega
    · have hb1 : (x == y) = false := beq_eq_false_iff_ne.2 he
      have HE := Lib.hid (show (xs == ys) = false from beq_eq_false_iff_ne.2 (HN.out he))
      clear he HN
      go_upto_region 6 with fail
      go_quiet (fail)
      go_wp2_with fail
      go_ret
      exact ⟨by rw [HE.out]; rfl, (HBn _).out⟩
/-- a node's cells -/
abbrev ndC (x : Nd) (Ak : Option Addr) (ck : Nat) (An : Option Addr) (cn : Nat) : Array Value := #[.int .i64 x.kd, .string (mkB x.nm), .int .i64 x.nu, .slice Ak x.kids.length ck, .slice An x.ns.length cn, .int .i64 x.at_]
def EqF (n : Nat) : Prop := ∀ (xs ys : List Nd) (A A' : Option Addr) (c c' B : Nat) (w : World), cntL xs ≤ n → NdsAt w (Lo B) A xs → NdsAt w (Lo B) A' ys → B ≤ w.heap.size → xs.length ≤ c → ys.length ≤ c' → c ≤ 9223372036854775807 → c' ≤ 9223372036854775807 →
    Calls Tryz.prog 46 #[.slice A xs.length c, .slice A' ys.length c', .func (.func 47) #[] #[]] w fun e w' => e = .returned (.bool (sameL xs ys)) ∧ Below w.heap.size w w'
set_option maxRecDepth 100000 in
set_option maxHeartbeats 8000000 in
theorem sameNode_any (n : Nat) (hf : EqF n) (x y : Nd) (Ak An Ak' An' : Option Addr) (ck cn ck' cn' B : Nat) (w : World) (hn : cntL x.kids ≤ n) (h1 : NdsAt w (Lo B) Ak x.kids) (h2 : SrAt w (Lo B) An x.ns) (h3 : NdsAt w (Lo B) Ak' y.kids) (h4 : SrAt w (Lo B) An' y.ns) (hB : B ≤ w.heap.size)
    (g1 : x.kids.length ≤ ck) (g2 : x.ns.length ≤ cn) (g3 : y.kids.length ≤ ck') (g4 : y.ns.length ≤ cn') (m1 : ck ≤ 9223372036854775807) (m2 : cn ≤ 9223372036854775807) (m3 : ck' ≤ 9223372036854775807) (m4 : cn' ≤ 9223372036854775807) :
    Calls Tryz.prog 47 #[.agg (ndC x Ak ck An cn), .agg (ndC y Ak' ck' An' cn')] w fun e w' => e = .returned (.bool (sameN x y)) ∧ Below w.heap.size w w' := by
  obtain ⟨W, hW⟩ : ∃ W, (w.alloc (.cells (ndC x Ak ck An cn) 47)).alloc (.cells (ndC y Ak' ck' An' cn') 47) = W := ⟨_, rfl⟩
  obtain ⟨q1, q2, hb⟩ := boxes2T w _ _ W hW
  have HEN := Lib.hid (fun w' (hb : Below w.heap.size w w') => equalNames_any x.ns y.ns An An' cn cn' B w' (h2.below (hb.mono hB) (Nat.le_refl _)) (h4.below (hb.mono hB) (Nat.le_refl _)) (Nat.le_trans hB hb.size) g2 g4 m2 m4)
  have HEF := Lib.hid (fun w' (hb : Below w.heap.size w w') => hf x.kids y.kids Ak Ak' ck ck' B w' hn (h1.below (hb.mono hB) (Nat.le_refl _)) (h3.below (hb.mono hB) (Nat.le_refl _)) (Nat.le_trans hB hb.size) g1 g3 m1 m3)
  obtain ⟨r, hr⟩ : ∃ r, sameN x y = r := ⟨_, rfl⟩
  rw [hr]
  rw [sameN_eq] at hr
  have HR := Lib.hid hr
  clear hr hf h1 h2 h3 h4 hn
  go_enter Tryz.func47, Tryz.ntmps47
  go_upto_region 1 with fail
  try simp only [hW]
  obtain ⟨T, hT⟩ : ∃ T, w.heap.size = T := ⟨_, rfl⟩
  rw [hT] at q1 q2
  try simp only [hT]
  have HB := Lib.hid hb
  have HQ := Lib.hid (And.intro q1 q2)
  have f1 := cells6T HQ.out.1
  have f2 := cells6T HQ.out.2
  have l1 := lt_of_blk HQ.out.1
  have l2 := lt_of_blk HQ.out.2
  clear hW hb q1 q2 hT
  cases hc0 : (x.kd == y.kd)
  · have HE := Lib.hid (show r = false by rw [← HR.out, hc0]; rfl)
    go_wp2_with fail
    go_ret
    exact ⟨by rw [HE.out]; rfl, HB.out⟩
  cases hc1 : (x.nm == y.nm)
  · have HE := Lib.hid (show r = false by rw [← HR.out, hc0, hc1]; rfl)
    go_wp2_with fail
    go_ret
    exact ⟨by rw [HE.out]; rfl, HB.out⟩
  cases hc2 : (x.nu == y.nu)
  · have HE := Lib.hid (show r = false by rw [← HR.out, hc0, hc1, hc2]; rfl)
    go_wp2_with fail
    go_ret
    exact ⟨by rw [HE.out]; rfl, HB.out⟩
  have hen := HEN.out W HB.out
  obtain ⟨t3, ht3⟩ : ∃ t, (x.ns == y.ns) = t := ⟨_, rfl⟩
  rw [ht3] at hen
  have HR2 := HR.out
  rw [hc0, hc1, hc2, ht3] at HR2
  have HR2 := Lib.hid HR2
  clear ht3 HR
  cases t3
  · have HE := Lib.hid (show r = false by rw [← HR2.out]; rfl)
    go_wp2_with (go_at_call 45; refine hen.mono ?_; rintro e w2 ⟨rfl, hb2⟩; clear hen)
    go_ret
    exact ⟨by rw [HE.out]; rfl, HB.out.trans (hb2.mono HB.out.size)⟩
  · have HE := Lib.hid (show r = sameL x.kids y.kids by rw [← HR2.out]; rfl)
    obtain ⟨t4, ht4⟩ : ∃ t, sameL x.kids y.kids = t := ⟨_, rfl⟩
    have HT4 := Lib.hid ht4
    clear ht4
    go_wp2_with (first
      | (go_at_call 45; refine hen.mono ?_; rintro e w2 ⟨rfl, hb2⟩; clear hen
         have f3 := cells6T ((hb2.block _ l1).trans HQ.out.1)
         have f4 := cells6T ((hb2.block _ l2).trans HQ.out.2)
         have l3 := Nat.lt_of_lt_of_le l1 hb2.size
         have l4 := Nat.lt_of_lt_of_le l2 hb2.size
         have hef := HEF.out w2 (HB.out.trans (hb2.mono HB.out.size))
         rw [HT4.out] at hef)
      | (go_at_call 46; refine hef.mono ?_; rintro e w3 ⟨rfl, hb3⟩; clear hef))
    go_ret
    exact ⟨by rw [HE.out, HT4.out]; rfl, (HB.out.trans (hb2.mono HB.out.size)).trans (hb3.mono (Nat.le_trans HB.out.size hb2.size))⟩
set_option maxRecDepth 100000 in
set_option maxHeartbeats 8000000 in
theorem equalFunc_any (n : Nat) : EqF n := by
  induction n with
  | zero =>
    intro xs ys A A' c c' B w hn h h' hB hc hc' hl hl'
    have hx0 : xs = [] := by cases xs; rfl; rw [cntL, cntN_eq] at hn; omega
    subst hx0
    go_enter Tryz.func46, Tryz.ntmps46
    cases ys with
    | nil =>
      have hne : ((0 : Int) != (0 : Int)) = false := rfl
      go_wp2_with fail
      go_loopw [17] (fun v wr => v = .int .i64 0 ∧ w = wr) (fun v _ => 0)
      case atStart => exact ⟨rfl, rfl⟩
      case round =>
        obtain ⟨rfl, rfl⟩ := hrel
        go_wp2_with fail
        go_ret
        exact ⟨rfl, Below.refl _ _⟩
    | cons y ys =>
      have hne : ((0 : Int) != (((y :: ys).length : Nat) : Int)) = true := by rw [bne_iff_ne, List.length_cons]; omega
      generalize hm : (y :: ys).length = m at *
      have HE := Lib.hid (show sameL [] (y :: ys) = false from rfl)
      go_wp2_with fail
      go_ret
      exact ⟨by rw [HE.out]; rfl, Below.refl _ _⟩
  | succ n ih =>
    intro xs ys A A' c c' B w hn h h' hB hc hc' hl hl'
    have H1 := Lib.hid h
    have H2 := Lib.hid h'
    clear h h'
    go_enter Tryz.func46, Tryz.ntmps46
    by_cases hln : xs.length = ys.length
    case neg =>
      have hne : ((xs.length : Int) != (ys.length : Int)) = true := by rw [bne_iff_ne]; omega
      have HE := Lib.hid (show sameL xs ys = false from sameL_len hln)
      go_wp2_with fail
      go_ret
      exact ⟨by rw [HE.out]; rfl, Below.refl _ _⟩
    have hne : ((xs.length : Int) != (ys.length : Int)) = false := by rw [hln]; simp
    have HLN := Lib.hid hln
    clear hln
    go_wp2_with fail
    go_loopw [17] (fun v wr => ∃ i : Nat, i ≤ xs.length ∧ v = .int .i64 (i : Int) ∧ Hid (sameL (xs.take i) (ys.take i) = true) ∧ Hid (Below w.heap.size w wr)) (fun v _ => xs.length - (intOf v).toNat)
    case atStart => exact ⟨0, Nat.zero_le _, rfl, Lib.hid rfl, Lib.hid (Below.refl _ _)⟩
    case round =>
      obtain ⟨i, hi, rfl, HT, HB⟩ := hrel
      by_cases hlt : i < xs.length
      case neg =>
        have hq : ¬ ((i : Int) < (xs.length : Int)) := by omega
        have HE := Lib.hid (show sameL xs ys = true by
          have h := HT.out
          rw [List.take_of_length_le (by omega), List.take_of_length_le (by have := HLN.out; omega)] at h
          exact h)
        go_wp2_with fail
        go_ret
        exact ⟨by rw [HE.out]; rfl, HB.out⟩
      have hq : (i : Int) < (xs.length : Int) := by omega
      have hlt' : i < ys.length := by have := HLN.out; omega
      have hq' : (i : Int) < (ys.length : Int) := by omega
      have hBw := Nat.le_trans hB HB.out.size
      obtain ⟨b, o, rfl, hb, Ak, ck, An, cn, d0, d1, d2, d3, d4, d5, g1, g2, g3, g4, g5, g6, _, _⟩ := (H1.out.below (HB.out.mono hB) (Nat.le_refl _)).at_ hlt
      obtain ⟨b', o', rfl, hb', Ak', ck', An', cn', e0, e1, e2, e3, e4, e5, f1, f2, f3, f4, f5, f6, _, _⟩ := (H2.out.below (HB.out.mono hB) (Nat.le_refl _)).at_ hlt'
      have hbw : b < wr.heap.size := Nat.lt_of_lt_of_le hb hBw
      have hbw' : b' < wr.heap.size := Nat.lt_of_lt_of_le hb' hBw
      have hck := cnt_kid hlt
      have HS : Hid (∀ w', Below wr.heap.size wr w' → Calls Tryz.prog 47 #[.agg (ndC xs[i] Ak ck An cn), .agg (ndC ys[i] Ak' ck' An' cn')] w' fun e w'' => e = .returned (.bool (sameN xs[i] ys[i])) ∧ Below w'.heap.size w' w'') :=
        Lib.hid (fun w' hb => sameNode_any n ih _ _ Ak An Ak' An' ck cn ck' cn' B w' (by omega) (g6.below (hb.mono hBw) (Nat.le_refl _)) (g5.below (hb.mono hBw) (Nat.le_refl _)) (f6.below (hb.mono hBw) (Nat.le_refl _)) (f5.below (hb.mono hBw) (Nat.le_refl _)) (Nat.le_trans hBw hb.size) g1 g2 f1 f2 g3 g4 f3 f4)
      have HM := Lib.hid (sameL_take hlt hlt')
      have HN := Lib.hid (sameL_false hlt hlt')
      clear g5 g6 f5 f6 g1 g2 g3 g4 f1 f2 f3 f4 hb hb' ih
      generalize xs[i] = x at *
      generalize ys[i] = y at *
      obtain ⟨W, hW⟩ : ∃ W, (wr.alloc (.cells (ndC x Ak ck An cn) 47)).alloc (.cells (ndC y Ak' ck' An' cn') 47) = W := ⟨_, rfl⟩
      obtain ⟨q1, q2, hbW⟩ := boxes2T wr _ _ W hW
      go_upto_region 7 with fail
      try simp only [hW]
      obtain ⟨T, hT⟩ : ∃ T, wr.heap.size = T := ⟨_, rfl⟩
      have hs := HS.out W hbW
      rw [hT] at q1 q2
      try simp only [hT]
      have f1 := cells6T q1
      have f2 := cells6T q2
      have l1 := lt_of_blk q1
      have l2 := lt_of_blk q2
      have HBW := Lib.hid (HB.out.trans (hbW.mono HB.out.size))
      clear hW hbW q1 q2 hT d0 d1 d2 d3 d4 d5 e0 e1 e2 e3 e4 e5
      obtain ⟨t, ht⟩ : ∃ t, sameN x y = t := ⟨_, rfl⟩
      rw [ht] at hs
      have HTn := Lib.hid ht
      clear ht
      cases t
      · have HE := Lib.hid (HN.out HTn.out)
        go_wp2_with (go_at_call 47; refine hs.mono ?_; rintro e w2 ⟨rfl, hb2⟩; clear hs)
        go_ret
        exact ⟨by rw [HE.out]; rfl, HBW.out.trans (hb2.mono HBW.out.size)⟩
      · have HT2 := Lib.hid (show sameL (xs.take (i + 1)) (ys.take (i + 1)) = true by rw [HM.out, HT.out, HTn.out]; rfl)
        clear HN HM
        go_wp2_with (go_at_call 47; refine hs.mono ?_; rintro e w2 ⟨rfl, hb2⟩; clear hs)
        have HB3 := Lib.hid (HBW.out.trans (hb2.mono HBW.out.size))
        clear hb2
        go_roundw
        case rel => exact ⟨i + 1, by omega, by simp, HT2, HB3⟩
        case measure => simp [intOf]; omega
end Go.Proofs.YtfcceojfcmgmlaaGreatDoor.Fl

/-
  Methods as trees: have two the same?
-/
namespace Go.Proofs.YtfcceojfcmgmlaaGreatDoor.Fl
open Go.RowKit Go.Shelf

/-- a method: name, parameters, variables, primitive, body, place -/
structure Me where
  nm : List UInt8
  ps : List (List UInt8)
  ts : List (List UInt8)
  pr : Int
  bd : List Nd
  at_ : Int
def sameM (a b : Me) : Bool := a.nm == b.nm && (a.pr == b.pr && (a.ps == b.ps && (a.ts == b.ts && sameL a.bd b.bd)))
/-- a method's value, in memory -/
structure MeAt (w : World) (P : Nat → Prop) (v : Value) (m : Me) : Prop where
  ex : ∃ Ap cp At ct Ab cb, v = .agg #[.string (mkB m.nm), .slice Ap m.ps.length cp, .slice At m.ts.length ct, .int .i64 m.pr, .slice Ab m.bd.length cb, .int .i64 m.at_] ∧
    m.ps.length ≤ cp ∧ cp ≤ 9223372036854775807 ∧ m.ts.length ≤ ct ∧ ct ≤ 9223372036854775807 ∧ m.bd.length ≤ cb ∧ cb ≤ 9223372036854775807 ∧ SrAt w P Ap m.ps ∧ SrAt w P At m.ts ∧ NdsAt w P Ab m.bd ∧ (Ap = none → m.ps = []) ∧ (At = none → m.ts = []) ∧ (Ab = none → m.bd = [])
theorem MeAt.keep {w w' : World} {P P' : Nat → Prop} {v : Value} {m : Me} (h : MeAt w P v m) (hk : ∀ b, P b → w'.heap[b]? = w.heap[b]? ∧ P' b) : MeAt w' P' v m := by
  obtain ⟨Ap, cp, At, ct, Ab, cb, e, h1, h2, h3, h4, h5, h6, s1, s2, s3, n1, n2, n3⟩ := h.ex
  exact ⟨Ap, cp, At, ct, Ab, cb, e, h1, h2, h3, h4, h5, h6, s1.keep hk, s2.keep hk, s3.keep hk, n1, n2, n3⟩
theorem MeAt.below {w w' : World} {B B' : Nat} {v : Value} {m : Me} (h : MeAt w (Lo B) v m) (hb : Below B w w') (hB : B ≤ B') : MeAt w' (Lo B') v m :=
  h.keep fun b hlt => ⟨hb.block b hlt, Nat.lt_of_lt_of_le hlt hB⟩
set_option maxRecDepth 100000 in
set_option maxHeartbeats 8000000 in
theorem rsameM_any (a b : Me) (va vb : Value) (w : World) (ha : MeAt w (Lo w.heap.size) va a) (hb : MeAt w (Lo w.heap.size) vb b) :
    Calls Tryz.prog 18 #[va, vb] w fun e w' => e = .returned (.bool (sameM a b)) ∧ Below w.heap.size w w' := by
  obtain ⟨Ap, cp, At, ct, Ab, cb, rfl, h1, h2, h3, h4, h5, h6, s1, s2, s3, -, -, -⟩ := ha.ex
  obtain ⟨Ap', cp', At', ct', Ab', cb', rfl, g1, g2, g3, g4, g5, g6, r1, r2, r3, -, -, -⟩ := hb.ex
  clear ha hb
  obtain ⟨W, hW⟩ : ∃ W, (w.alloc (.cells #[.string (mkB a.nm), .slice Ap a.ps.length cp, .slice At a.ts.length ct, .int .i64 a.pr, .slice Ab a.bd.length cb, .int .i64 a.at_] 25)).alloc (.cells #[.string (mkB b.nm), .slice Ap' b.ps.length cp', .slice At' b.ts.length ct', .int .i64 b.pr, .slice Ab' b.bd.length cb', .int .i64 b.at_] 25) = W := ⟨_, rfl⟩
  obtain ⟨q1, q2, hbW⟩ := boxes2T w _ _ W hW
  have HP := Lib.hid (fun w' (hb : Below w.heap.size w w') => rsameNames_any a.ps b.ps Ap Ap' cp cp' w.heap.size w' (s1.below hb (Nat.le_refl _)) (r1.below hb (Nat.le_refl _)) hb.size h1 g1 h2 g2)
  have HTm := Lib.hid (fun w' (hb : Below w.heap.size w w') => rsameNames_any a.ts b.ts At At' ct ct' w.heap.size w' (s2.below hb (Nat.le_refl _)) (r2.below hb (Nat.le_refl _)) hb.size h3 g3 h4 g4)
  have HBd := Lib.hid (fun w' (hb : Below w.heap.size w w') => rsameNodes_any (cntL a.bd) a.bd b.bd Ab Ab' cb cb' w.heap.size w' (Nat.le_refl _) (s3.below hb (Nat.le_refl _)) (r3.below hb (Nat.le_refl _)) hb.size h5 g5 h6 g6)
  obtain ⟨r, hr⟩ : ∃ r, sameM a b = r := ⟨_, rfl⟩
  rw [hr]
  unfold sameM at hr
  have HR := Lib.hid hr
  clear hr s1 s2 s3 r1 r2 r3 h1 h2 h3 h4 h5 h6 g1 g2 g3 g4 g5 g6
  go_enter Tryz.func18, Tryz.ntmps18
  go_upto_region 1 with fail
  try simp only [hW]
  obtain ⟨T, hT⟩ : ∃ T, w.heap.size = T := ⟨_, rfl⟩
  rw [hT] at q1 q2
  try simp only [hT]
  have HB := Lib.hid hbW
  have HQ := Lib.hid (And.intro q1 q2)
  have f1 := cells6T HQ.out.1
  have f2 := cells6T HQ.out.2
  have l1 := lt_of_blk HQ.out.1
  have l2 := lt_of_blk HQ.out.2
  clear hW hbW q1 q2 hT
  cases hc0 : (a.nm == b.nm)
  · have HE := Lib.hid (show r = false by rw [← HR.out, hc0]; rfl)
    go_wp2_with fail
    go_ret
    exact ⟨by rw [HE.out]; rfl, HB.out⟩
  cases hc1 : (a.pr == b.pr)
  · have HE := Lib.hid (show r = false by rw [← HR.out, hc0, hc1]; rfl)
    go_wp2_with fail
    go_ret
    exact ⟨by rw [HE.out]; rfl, HB.out⟩
  have hp := HP.out W HB.out
  obtain ⟨t2, ht2⟩ : ∃ t, (a.ps == b.ps) = t := ⟨_, rfl⟩
  obtain ⟨t3, ht3⟩ : ∃ t, (a.ts == b.ts) = t := ⟨_, rfl⟩
  obtain ⟨t4, ht4⟩ : ∃ t, sameL a.bd b.bd = t := ⟨_, rfl⟩
  have HR2 := HR.out
  rw [hc0, hc1, ht2, ht3, ht4] at HR2
  rw [ht2] at hp
  have HR2 := Lib.hid HR2
  have HT3 := Lib.hid ht3
  have HT4 := Lib.hid ht4
  clear ht2 ht3 ht4 HR
  cases t2
  · have HE := Lib.hid (show r = false by rw [← HR2.out]; rfl)
    go_wp2_with (go_at_call 42; refine hp.mono ?_; rintro e w2 ⟨rfl, hb2⟩; clear hp)
    go_ret
    exact ⟨by rw [HE.out]; rfl, HB.out.trans (hb2.mono HB.out.size)⟩
  cases t3
  · have HE := Lib.hid (show r = false by rw [← HR2.out]; rfl)
    go_wp2_with (go_at_call 42; first
      | (refine hp.mono ?_; rintro e w2 ⟨rfl, hb2⟩; clear hp
         have f3 := cells6T ((hb2.block _ l1).trans HQ.out.1)
         have f4 := cells6T ((hb2.block _ l2).trans HQ.out.2)
         have l3 := Nat.lt_of_lt_of_le l1 hb2.size
         have l4 := Nat.lt_of_lt_of_le l2 hb2.size
         have ht := HTm.out w2 (HB.out.trans (hb2.mono HB.out.size))
         rw [HT3.out] at ht)
      | (refine ht.mono ?_; rintro e w3 ⟨rfl, hb3⟩; clear ht))
    go_ret
    exact ⟨by rw [HE.out]; rfl, (HB.out.trans (hb2.mono HB.out.size)).trans (hb3.mono (Nat.le_trans HB.out.size hb2.size))⟩
  have HE := Lib.hid (show r = t4 by rw [← HR2.out]; cases t4 <;> rfl)
  go_wp2_with (first
    | (go_at_call 42; first
        | (refine hp.mono ?_; rintro e w2 ⟨rfl, hb2⟩; clear hp
           have f3 := cells6T ((hb2.block _ l1).trans HQ.out.1)
           have f4 := cells6T ((hb2.block _ l2).trans HQ.out.2)
           have l3 := Nat.lt_of_lt_of_le l1 hb2.size
           have l4 := Nat.lt_of_lt_of_le l2 hb2.size
           have ht := HTm.out w2 (HB.out.trans (hb2.mono HB.out.size))
           rw [HT3.out] at ht)
        | (refine ht.mono ?_; rintro e w3 ⟨rfl, hb3⟩; clear ht
           have f5 := cells6T ((hb3.block _ l3).trans ((hb2.block _ l1).trans HQ.out.1))
           have f6 := cells6T ((hb3.block _ l4).trans ((hb2.block _ l2).trans HQ.out.2))
           have l5 := Nat.lt_of_lt_of_le l3 hb3.size
           have l6 := Nat.lt_of_lt_of_le l4 hb3.size
           have HB3 := Lib.hid ((HB.out.trans (hb2.mono HB.out.size)).trans (hb3.mono (Nat.le_trans HB.out.size hb2.size)))
           have hd := HBd.out w3 HB3.out
           rw [HT4.out] at hd))
    | (go_at_call 43; refine hd.mono ?_; rintro e w4 ⟨rfl, hb4⟩; clear hd))
  go_ret
  exact ⟨by rw [HE.out]; rfl, HB3.out.trans (hb4.mono HB3.out.size)⟩
set_option maxRecDepth 100000 in
set_option maxHeartbeats 8000000 in
theorem sameM_any (a b : Me) (va vb : Value) (w : World) (ha : MeAt w (Lo w.heap.size) va a) (hb : MeAt w (Lo w.heap.size) vb b) :
    Calls Tryz.prog 20 #[va, vb] w fun e w' => e = .returned (.bool (sameM a b)) ∧ Below w.heap.size w w' := by
  obtain ⟨Ap, cp, At, ct, Ab, cb, rfl, h1, h2, h3, h4, h5, h6, s1, s2, s3, -, -, -⟩ := ha.ex
  obtain ⟨Ap', cp', At', ct', Ab', cb', rfl, g1, g2, g3, g4, g5, g6, r1, r2, r3, -, -, -⟩ := hb.ex
  clear ha hb
  obtain ⟨W, hW⟩ : ∃ W, (w.alloc (.cells #[.string (mkB a.nm), .slice Ap a.ps.length cp, .slice At a.ts.length ct, .int .i64 a.pr, .slice Ab a.bd.length cb, .int .i64 a.at_] 30)).alloc (.cells #[.string (mkB b.nm), .slice Ap' b.ps.length cp', .slice At' b.ts.length ct', .int .i64 b.pr, .slice Ab' b.bd.length cb', .int .i64 b.at_] 30) = W := ⟨_, rfl⟩
  obtain ⟨q1, q2, hbW⟩ := boxes2T w _ _ W hW
  have HP := Lib.hid (fun w' (hb : Below w.heap.size w w') => equalNames_any a.ps b.ps Ap Ap' cp cp' w.heap.size w' (s1.below hb (Nat.le_refl _)) (r1.below hb (Nat.le_refl _)) hb.size h1 g1 h2 g2)
  have HTm := Lib.hid (fun w' (hb : Below w.heap.size w w') => equalNames_any a.ts b.ts At At' ct ct' w.heap.size w' (s2.below hb (Nat.le_refl _)) (r2.below hb (Nat.le_refl _)) hb.size h3 g3 h4 g4)
  have HBd := Lib.hid (fun w' (hb : Below w.heap.size w w') => equalFunc_any (cntL a.bd) a.bd b.bd Ab Ab' cb cb' w.heap.size w' (Nat.le_refl _) (s3.below hb (Nat.le_refl _)) (r3.below hb (Nat.le_refl _)) hb.size h5 g5 h6 g6)
  obtain ⟨r, hr⟩ : ∃ r, sameM a b = r := ⟨_, rfl⟩
  rw [hr]
  unfold sameM at hr
  have HR := Lib.hid hr
  clear hr s1 s2 s3 r1 r2 r3 h1 h2 h3 h4 h5 h6 g1 g2 g3 g4 g5 g6
  go_enter Tryz.func20, Tryz.ntmps20
  go_upto_region 1 with fail
  try simp only [hW]
  obtain ⟨T, hT⟩ : ∃ T, w.heap.size = T := ⟨_, rfl⟩
  rw [hT] at q1 q2
  try simp only [hT]
  have HB := Lib.hid hbW
  have HQ := Lib.hid (And.intro q1 q2)
  have f1 := cells6T HQ.out.1
  have f2 := cells6T HQ.out.2
  have l1 := lt_of_blk HQ.out.1
  have l2 := lt_of_blk HQ.out.2
  clear hW hbW q1 q2 hT
  cases hc0 : (a.nm == b.nm)
  · have HE := Lib.hid (show r = false by rw [← HR.out, hc0]; rfl)
    go_wp2_with fail
    go_ret
    exact ⟨by rw [HE.out]; rfl, HB.out⟩
  cases hc1 : (a.pr == b.pr)
  · have HE := Lib.hid (show r = false by rw [← HR.out, hc0, hc1]; rfl)
    go_wp2_with fail
    go_ret
    exact ⟨by rw [HE.out]; rfl, HB.out⟩
  have hp := HP.out W HB.out
  obtain ⟨t2, ht2⟩ : ∃ t, (a.ps == b.ps) = t := ⟨_, rfl⟩
  obtain ⟨t3, ht3⟩ : ∃ t, (a.ts == b.ts) = t := ⟨_, rfl⟩
  obtain ⟨t4, ht4⟩ : ∃ t, sameL a.bd b.bd = t := ⟨_, rfl⟩
  have HR2 := HR.out
  rw [hc0, hc1, ht2, ht3, ht4] at HR2
  rw [ht2] at hp
  have HR2 := Lib.hid HR2
  have HT3 := Lib.hid ht3
  have HT4 := Lib.hid ht4
  clear ht2 ht3 ht4 HR
  cases t2
  · have HE := Lib.hid (show r = false by rw [← HR2.out]; rfl)
    go_wp2_with (go_at_call 45; refine hp.mono ?_; rintro e w2 ⟨rfl, hb2⟩; clear hp)
    go_ret
    exact ⟨by rw [HE.out]; rfl, HB.out.trans (hb2.mono HB.out.size)⟩
  cases t3
  · have HE := Lib.hid (show r = false by rw [← HR2.out]; rfl)
    go_wp2_with (go_at_call 45; first
      | (refine hp.mono ?_; rintro e w2 ⟨rfl, hb2⟩; clear hp
         have f3 := cells6T ((hb2.block _ l1).trans HQ.out.1)
         have f4 := cells6T ((hb2.block _ l2).trans HQ.out.2)
         have l3 := Nat.lt_of_lt_of_le l1 hb2.size
         have l4 := Nat.lt_of_lt_of_le l2 hb2.size
         have ht := HTm.out w2 (HB.out.trans (hb2.mono HB.out.size))
         rw [HT3.out] at ht)
      | (refine ht.mono ?_; rintro e w3 ⟨rfl, hb3⟩; clear ht))
    go_ret
    exact ⟨by rw [HE.out]; rfl, (HB.out.trans (hb2.mono HB.out.size)).trans (hb3.mono (Nat.le_trans HB.out.size hb2.size))⟩
  have HE := Lib.hid (show r = t4 by rw [← HR2.out]; cases t4 <;> rfl)
  go_wp2_with (first
    | (go_at_call 45; first
        | (refine hp.mono ?_; rintro e w2 ⟨rfl, hb2⟩; clear hp
           have f3 := cells6T ((hb2.block _ l1).trans HQ.out.1)
           have f4 := cells6T ((hb2.block _ l2).trans HQ.out.2)
           have l3 := Nat.lt_of_lt_of_le l1 hb2.size
           have l4 := Nat.lt_of_lt_of_le l2 hb2.size
           have ht := HTm.out w2 (HB.out.trans (hb2.mono HB.out.size))
           rw [HT3.out] at ht)
        | (refine ht.mono ?_; rintro e w3 ⟨rfl, hb3⟩; clear ht
           have f5 := cells6T ((hb3.block _ l3).trans ((hb2.block _ l1).trans HQ.out.1))
           have f6 := cells6T ((hb3.block _ l4).trans ((hb2.block _ l2).trans HQ.out.2))
           have l5 := Nat.lt_of_lt_of_le l3 hb3.size
           have l6 := Nat.lt_of_lt_of_le l4 hb3.size
           have HB3 := Lib.hid ((HB.out.trans (hb2.mono HB.out.size)).trans (hb3.mono (Nat.le_trans HB.out.size hb2.size)))
           have hd := HBd.out w3 HB3.out
           rw [HT4.out] at hd))
    | (go_at_call 46; refine hd.mono ?_; rintro e w4 ⟨rfl, hb4⟩; clear hd))
  go_ret
  exact ⟨by rw [HE.out]; rfl, HB3.out.trans (hb4.mono HB3.out.size)⟩
end Go.Proofs.YtfcceojfcmgmlaaGreatDoor.Fl

/-
  What a file has, as the document reads it: its classes and its methods' texts, in rows of the call's own.
-/
namespace Go.Proofs.YtfcceojfcmgmlaaGreatDoor.Fl
open Go.RowKit

/-- a class (name, the one above, fields, place); a method's text (class, of the class's own side, text, place) -/
abbrev Cls := List UInt8 × List UInt8 × List (List UInt8) × Int
abbrev Src := List UInt8 × Bool × List UInt8 × Int
/-- a row's block is no block of another type -/
theorem own_ne {w : World} {base : Nat} {T T' : TypeId} {size n : Nat} {v : Value} {xs : List Value} (h : w.ownsRow base T size v n xs) {k : Nat} {cs : Array Value} {fr : Nat × Nat} (hk : w.heap[k]? = some (.cells cs T' fr)) (hT : T' ≠ T) : v.ownBlock ≠ some k := by
  intro e
  rcases h.2 with ⟨hv, _⟩ | ⟨g, cap, cur, hv, _, hg, _⟩
  · rw [hv] at e; cases e
  · rw [hv] at e
    injection e with e
    subst e
    rw [hg] at hk
    injection hk with hk
    injection hk with _ hk
    exact hT hk.symm
end Go.Proofs.YtfcceojfcmgmlaaGreatDoor.Fl

/-
  What the document's Read says of a file.
-/
namespace Go.Proofs.YtfcceojfcmgmlaaGreatDoor.Fl
open Go.RowKit

/-! ### the model -/
end Go.Proofs.YtfcceojfcmgmlaaGreatDoor.Fl

/-
  The document's Read.
-/
namespace Go.Proofs.YtfcceojfcmgmlaaGreatDoor.Fl
open Go.RowKit

theorem OwnS.keep {w w' : World} {base : Nat} {v : Value} {xs : List (List UInt8)} (h : OwnS w base v xs) (hb : ∀ j, v.ownBlock = some j → w'.heap[j]? = w.heap[j]?) : OwnS w' base v xs :=
  ⟨h.1, h.2.elim .inl fun ⟨g, cap, cur, hv, hbg, hg, r⟩ => .inr ⟨g, cap, cur, hv, hbg, (hb g (by rw [hv]; rfl)).trans hg, r⟩⟩
end Go.Proofs.YtfcceojfcmgmlaaGreatDoor.Fl

/-
  The document's Read: the walk.
-/
namespace Go.Proofs.YtfcceojfcmgmlaaGreatDoor.Fl
open Go.RowKit

end Go.Proofs.YtfcceojfcmgmlaaGreatDoor.Fl

/-
  What a file has, as the program reads it: rows of its classes and of its texts.
-/
namespace Go.Proofs.YtfcceojfcmgmlaaGreatDoor.Fl
open Go.RowKit

def sk_ (l : List Src) : List Value := l.flatMap fun x => [.string (mkB x.1), .bool x.2.1, .string (mkB x.2.2.1), .int .i64 x.2.2.2]
def ck_ (l : List (Cls × Value)) : List Value := l.flatMap fun x => [.string (mkB x.1.1), .string (mkB x.1.2.1), x.2, .int .i64 x.1.2.2.2]
end Go.Proofs.YtfcceojfcmgmlaaGreatDoor.Fl

/-
  What stands while the program reads a file: its reader.
-/
namespace Go.Proofs.YtfcceojfcmgmlaaGreatDoor.Fl
open Go.RowKit

end Go.Proofs.YtfcceojfcmgmlaaGreatDoor.Fl

/-
  The word of a Name is a name.
-/
namespace Go.Proofs.YtfcceojfcmgmlaaGreatDoor.Fl
open Go.RowKit

end Go.Proofs.YtfcceojfcmgmlaaGreatDoor.Fl

/-
  What the program asks of a chunk's tokens, in the document's words.
-/
namespace Go.Proofs.YtfcceojfcmgmlaaGreatDoor.Fl
open Go.RowKit

end Go.Proofs.YtfcceojfcmgmlaaGreatDoor.Fl

/-
  A range over a function, in a function that is known: a panic of a round crosses it.
-/
namespace Go.Proofs.YtfcceojfcmgmlaaGreatDoor.Fl
open Go.RowKit Go.Shelf

end Go.Proofs.YtfcceojfcmgmlaaGreatDoor.Fl

/-
  A chunk, as the program comes to it.
-/
namespace Go.Proofs.YtfcceojfcmgmlaaGreatDoor.Fl
open Go.RowKit

end Go.Proofs.YtfcceojfcmgmlaaGreatDoor.Fl

/-
  The iterator over a file's chunks.
-/
namespace Go.Proofs.YtfcceojfcmgmlaaGreatDoor.Fl
open Go.RowKit Go.Shelf

end Go.Proofs.YtfcceojfcmgmlaaGreatDoor.Fl

/-
  A range over a file's chunks.
-/
namespace Go.Proofs.YtfcceojfcmgmlaaGreatDoor.Fl
open Go.RowKit Go.Shelf

/-- memory has grown, or what has changed are no cells, and none of what was there ahead of B -/
structure Sp (B : Nat) (W W' : World) : Prop where
  os : W'.os = W.os
  tape : W'.tape = W.tape
  output : W'.output = W.output
  size : W.heap.size ≤ W'.heap.size
  low : ∀ k : Nat, k < B → k < W.heap.size → W'.heap[k]? = W.heap[k]?
  cells : ∀ (k : Nat) (cs : Array Value) (T : TypeId) (fr : Nat × Nat), W.heap[k]? = some (Obj.cells cs T fr) → W'.heap[k]? = W.heap[k]?
theorem Sp.below {B : Nat} {W W' : World} (h : Below W.heap.size W W') : Sp B W W' :=
  ⟨h.os, h.tape, h.output, h.size, fun k _ hk => h.block k hk, fun k _ _ _ hk => h.block k (lt_of_blk hk)⟩
theorem Sp.put {B : Nat} {W : World} {l : Nat} {o : Obj} (hl : B ≤ l) (h : W.heap[l]? = some o) (ho : o.isCells = false) (o' : Obj) : Sp B W (W.putObj l o') :=
  ⟨rfl, rfl, rfl, by simp, fun k hk _ => World.putObj_heap_other (by omega), fun k cs T fr hc => World.putObj_heap_other (fun e => by subst e; rw [h] at hc; cases hc; cases ho)⟩
theorem Sp.cell {B : Nat} {W W' : World} (h : Sp B W W') {b o : Nat} {v : Value} (hc : W.cell? ⟨b, o, none⟩ = some v) : W'.cell? ⟨b, o, none⟩ = some v := by
  have hb : ∃ cs T fr, W.heap[b]? = some (.cells cs T fr) := by
    unfold World.cell? at hc
    cases hk : W.heap[b]? with
    | none => simp [hk] at hc
    | some x =>
      cases x <;> simp_all
  obtain ⟨cs, T, fr, hk⟩ := hb
  exact (World.cell?_of_block (a := ⟨b, o, none⟩) (h.cells b cs T fr hk)).trans hc
end Go.Proofs.YtfcceojfcmgmlaaGreatDoor.Fl

/-
  The law's Told: a unit of the program's as one of the document's.
-/
namespace Go.Proofs.YtfcceojfcmgmlaaGreatDoor.Fl
open Go.RowKit Go.Shelf

/-- a unit of the program's, as it may be read -/
structure UnAt (w : World) (B : Nat) (v0 v1 : Value) (fs : List (Cls × Value)) (ss : List Src) : Prop where
  cl : ∃ A c, v0 = .slice A fs.length c ∧ fs.length ≤ c ∧ Rd w B A (ck_ fs)
  so : ∃ A c, v1 = .slice A ss.length c ∧ ss.length ≤ c ∧ Rd w B A (sk_ ss)
  fi : ∀ x ∈ fs, ∃ A c, x.2 = .slice A x.1.2.2.1.length c ∧ x.1.2.2.1.length ≤ c ∧ (A = none → x.1.2.2.1.length = 0) ∧ Rd w B A (cs_ x.1.2.2.1)
theorem UnAt.below {w w' : World} {B : Nat} {v0 v1 : Value} {fs : List (Cls × Value)} {ss : List Src} (h : UnAt w B v0 v1 fs ss) (hb : Below B w w') : UnAt w' B v0 v1 fs ss := by
  obtain ⟨⟨A, c, e1, e2, e3⟩, ⟨A', c', g1, g2, g3⟩, hf⟩ := h
  exact ⟨⟨A, c, e1, e2, e3.below hb (Nat.le_refl _)⟩, ⟨A', c', g1, g2, g3.below hb (Nat.le_refl _)⟩, fun x hx => (hf x hx).imp fun A ⟨c, h1, h2, h3, h4⟩ => ⟨c, h1, h2, h3, h4.below hb (Nat.le_refl _)⟩⟩
theorem own_rdZ {w : World} {base e size n c : Nat} {A : Option Addr} {xs : List Value} (h : w.ownsRow base e size (.slice A n c) n xs) : Rd w w.heap.size A xs ∧ n ≤ c ∧ (A = none → n = 0) := by
  rcases h.2 with ⟨e1, e2⟩ | ⟨g, cap, cur, e1, hb, hg, hc, _, _, ht⟩
  · injection e1 with e1 e3 e4
    subst e1
    have hx : xs = [] := by
      have := h.1
      rw [e2, Nat.zero_mul] at this
      exact List.eq_nil_of_length_eq_zero this
    rw [hx]
    exact ⟨.inl rfl, by omega, fun _ => e2⟩
  · injection e1 with e1 e3 e4
    subst e1
    refine ⟨.inr ⟨g, 0, rfl, lt_of_blk hg, fun j v hj => ?_⟩, by omega, fun h => by cases h⟩
    rw [Nat.zero_add]
    have hj' : cur.toList[j]? = some v := by
      rw [← ht, List.getElem?_take] at hj
      split at hj
      · exact hj
      · cases hj
    have hj2 : cur[j]? = some v := by rw [← Array.getElem?_toList]; exact hj'
    unfold World.cell?
    simp [hg, hj2]
section
variable {w0 w w1 w2 : World} {U : Nat} {fs : List (Cls × Value)} {ss : List Src} {A1 A2 A3 : Option Addr} {c1 c2 c3 : Nat}
end
theorem step_append_s {w : World} {base c : Nat} {A : Option Addr} {xs news : List (List UInt8)} {v : Value} {ops : Array Oper} {o : Oper} {a : Act} {K : Act → World → Prop} {Q : Exit → Act → World → Prop} {E : Prop} (hg : o.guard = none) (s x : Operand) (ho : o.op = .call { callee := .builtin .append, args := #[s, x], argTypes := #[22, 22] })
    (hs : a.eval s = v) (hx : a.eval x = .slice A news.length c) (hown : OwnS w base v xs) (hr : Rd w w.heap.size A (cs_ news)) (hA : A = none → news.length = 0) (hone : ∀ v ∈ cs_ news, v.oneCell' = true) (hl : xs.length ≤ 100000000) (hl2 : news.length ≤ 100000000) (hb : base ≤ w.heap.size)
    (h : ∀ A' ts c' w', Hid (ts = xs ++ news) → Hid (OwnS w' base (.slice A' ts.length c') ts) → Hid (Below base w w' ∧ (∀ k, k < w.heap.size → some k ≠ v.ownBlock → w'.heap[k]? = w.heap[k]?) ∧ ((Value.slice A' ts.length c').ownBlock = v.ownBlock ∨ (Value.slice A' ts.length c').ownBlock = some w.heap.size)) → K (a.put o.dst (.slice A' ts.length c')) w') :
    if Region.wanted o (yielded ops a.tmps) = true then Oper.wp Tryz.prog o a w K Q else E := by
  obtain ⟨i0, hi, hz0, hz1, hz2⟩ := info_parts strInfo
  refine step_append_rd (base := base) (size := 1) (bytes := 16) (n := xs.length) (m := news.length) (c := c) (v := v) (xs := cs_ xs) (news := cs_ news) hg s x ho Tryz.underlying22 hi hz0 hz1 hz2 rfl (by decide) hs hx hown hr (by rw [cs_len, Nat.mul_one]) hA hone (by unfold maxLen; omega) (by omega) hb ?_
  intro v' w' happ
  obtain ⟨A', c', rfl, _, _⟩ := happ.slice
  have e : xs.length + news.length = (xs ++ news).length := by simp
  have ho := happ.own
  have hat := happ.at_
  rw [e, show cs_ xs ++ cs_ news = cs_ (xs ++ news) from (cs_app _ _).symm] at ho
  rw [e] at hat ⊢
  exact h A' (xs ++ news) c' w' (Lib.hid rfl) (Lib.hid ho) (Lib.hid ⟨(Below.refl _ _).grown happ.grown hb (fun j hj => (World.ownsRow.lt hown j hj).1), happ.grown.block, hat⟩)
end Go.Proofs.YtfcceojfcmgmlaaGreatDoor.Fl

/-
  The law's Told: the walk.
-/
namespace Go.Proofs.YtfcceojfcmgmlaaGreatDoor.Fl
open Go.RowKit Go.Shelf

end Go.Proofs.YtfcceojfcmgmlaaGreatDoor.Fl

/-
  The document's All: nodes, each ahead of its kids.
-/
namespace Go.Proofs.YtfcceojfcmgmlaaGreatDoor.Fl
open Go.RowKit Go.Shelf

/-- a node in a row: what it is, where its kids stand and its names -/
abbrev NE := Nd × (Option Addr × Nat × Nat) × (Option Addr × Nat × Nat)
theorem nodeinfoR : (Tryz.prog.info? 49).map (fun i => (i.zero, i.size, i.bytes)) = some (some (.agg #[.int .i64 0, .string ⟨#[]⟩, .int .i64 0, .slice none 0 0, .slice none 0 0, .int .i64 0]), 6, 88) := by kernel_rfl
def ne6 (x : NE) : List Value := [.int .i64 x.1.kd, .string (mkB x.1.nm), .int .i64 x.1.nu, .slice x.2.1.1 x.2.1.2.1 x.2.1.2.2, .slice x.2.2.1 x.2.2.2.1 x.2.2.2.2, .int .i64 x.1.at_]
def ne_ (l : List NE) : List Value := l.flatMap ne6
theorem ne__len (l : List NE) : (ne_ l).length = l.length * 6 := by
  induction l with
  | nil => rfl
  | cons x l ih =>
    show (ne6 x ++ ne_ l).length = _
    rw [List.length_append, ih]
    simp [ne6]
    omega
theorem ne__app (l m : List NE) : ne_ (l ++ m) = ne_ l ++ ne_ m := List.flatMap_append
theorem ne__one (l : List NE) : ∀ u ∈ ne_ l, u.oneCell' = true := by
  intro u hu
  obtain ⟨x, _, h⟩ := List.mem_flatMap.1 hu
  simp only [ne6, List.mem_cons, List.not_mem_nil, or_false] at h
  rcases h with rfl | rfl | rfl | rfl | rfl | rfl <;> rfl
def OwnN (w : World) (base : Nat) (v : Value) (l : List NE) : Prop := w.ownsRow base 49 6 v l.length (ne_ l)
theorem OwnN.below {w w' : World} {base : Nat} {v : Value} {xs : List NE} (h : OwnN w base v xs) (hb : Below w.heap.size w w') : OwnN w' base v xs :=
  ⟨h.1, h.2.elim .inl fun ⟨g, cap, cur, hv, hbg, hg, r⟩ => .inr ⟨g, cap, cur, hv, hbg, (hb.block g (lt_of_blk hg)).trans hg, r⟩⟩
theorem OwnN.wide {w : World} {base base' : Nat} {v : Value} {xs : List NE} (h : OwnN w base v xs) (hb : base' ≤ base) : OwnN w base' v xs :=
  ⟨h.1, h.2.elim .inl fun ⟨g, cap, cur, hv, hbg, hg, r⟩ => .inr ⟨g, cap, cur, hv, Nat.le_trans hb hbg, hg, r⟩⟩
theorem wpList_append_n {w : World} {base c : Nat} {A : Option Addr} {xs news : List NE} {v : Value} {ops : Array Oper} {rest : List Oper} {o : Oper} {a : Act} {Q : Exit → Act → World → Prop} (hg : o.guard = none) (s x : Operand) (ho : o.op = .call { callee := .builtin .append, args := #[s, x], argTypes := #[23, 23] })
    (hs : a.eval s = v) (hx : a.eval x = .slice A news.length c) (hown : OwnN w base v xs) (hr : Rd w w.heap.size A (ne_ news)) (hA : A = none → news.length = 0) (hl : xs.length ≤ 100000000) (hl2 : news.length ≤ 100000000) (hb : base ≤ w.heap.size)
    (h : ∀ A' ts c' w', Hid (ts = xs ++ news) → Hid (OwnN w' base (.slice A' ts.length c') ts) → Hid (Below base w w' ∧ (∀ k, k < w.heap.size → some k ≠ v.ownBlock → w'.heap[k]? = w.heap[k]?)) → wpList Tryz.prog ops Q rest (a.put o.dst (.slice A' ts.length c')) w') :
    wpList Tryz.prog ops Q (o :: rest) a w := by
  obtain ⟨i0, hi, hz0, hz1, hz2⟩ := info_parts nodeinfoR
  refine wpList_append_rd (base := base) (size := 6) (bytes := 88) (n := xs.length) (m := news.length) (c := c) (v := v) (xs := ne_ xs) (news := ne_ news) hg s x ho Tryz.underlying23 hi hz0 hz1 hz2 rfl (by decide) hs hx hown hr (ne__len _) hA (ne__one _) (by unfold maxLen; omega) (by omega) hb ?_
  intro v' w' happ
  obtain ⟨A', c', rfl, _, _⟩ := happ.slice
  have e : xs.length + news.length = (xs ++ news).length := by simp
  have ho := happ.own
  rw [e, show ne_ xs ++ ne_ news = ne_ (xs ++ news) from (ne__app _ _).symm] at ho
  rw [e]
  exact h A' (xs ++ news) c' w' (Lib.hid rfl) (Lib.hid ho) (Lib.hid ⟨(Below.refl _ _).grown happ.grown hb (fun j hj => (World.ownsRow.lt hown j hj).1), happ.grown.block⟩)
theorem ne_one (w : World) (x : NE) : Rd (w.alloc (.cells (ne6 x).toArray 49)) (w.alloc (.cells (ne6 x).toArray 49)).heap.size (some ⟨w.heap.size, 0, none⟩) (ne_ [x]) := by
  have hg := heap_alloc_new w (.cells (ne6 x).toArray 49)
  refine .inr ⟨w.heap.size, 0, rfl, lt_of_blk hg, fun j v hj => ?_⟩
  unfold World.cell?
  have e : ne_ [x] = ne6 x := by simp [ne_]
  rw [e] at hj
  simp only [hg, Nat.zero_add]
  show (ne6 x).toArray[j]? = some v
  rw [List.getElem?_toArray]
  exact hj
/-- what All answers: a row of its own -/
def AllPostT (w : World) (l : List Nd) (e : Ending) (w' : World) : Prop :=
  Below w.heap.size w w' ∧ ∃ (es : List NE) (A : Option Addr) (c : Nat), e = .returned (.slice A es.length c) ∧ es.map (fun x => x.1) = allL l ∧ OwnN w' w.heap.size (.slice A es.length c) es
set_option maxRecDepth 100000 in
set_option maxHeartbeats 8000000 in
theorem rallN_any (n : Nat) : ∀ (xs : List Nd) (A : Option Addr) (c B : Nat) (w : World), cntL xs ≤ n → cntL xs ≤ 10000000 → NdsAt w (Lo B) A xs → B ≤ w.heap.size → xs.length ≤ c →
    Calls Tryz.prog 15 #[.slice A xs.length c] w (AllPostT w xs) := by
  induction n with
  | zero =>
    intro xs A c B w hn hs h hB hc
    have hx0 : xs = [] := by cases xs; rfl; rw [cntL, cntN_eq] at hn; omega
    subst hx0
    go_enter Tryz.func15, Tryz.ntmps15
    go_wp2_with fail
    go_loopw [3, 4] (fun u v wr => u = .slice none 0 0 ∧ v = .int .i64 0 ∧ w = wr) (fun _ v _ => 0)
    case atStart => exact ⟨rfl, rfl, rfl⟩
    case round =>
      obtain ⟨rfl, rfl, rfl⟩ := hrel
      go_wp2_with fail
      go_ret
      exact ⟨Below.refl _ _, [], none, 0, rfl, rfl, World.ownsRow_nil _ _ _ _⟩
  | succ n ih =>
    intro xs A c B w hn hs h hB hc
    have H1 := Lib.hid h
    have HL := Lib.hid (show (allL xs).length = cntL xs from allL_len _ xs (Nat.le_refl _))
    clear h
    have hxl := cnt_len xs
    go_enter Tryz.func15, Tryz.ntmps15
    go_wp2_with fail
    go_loopw [3, 4] (fun u v wr => ∃ (i : Nat) (es : List NE) (A2 : Option Addr) (c2 : Nat), i ≤ xs.length ∧ u = .slice A2 es.length c2 ∧ v = .int .i64 (i : Int) ∧ es.length ≤ 10000000 ∧ Hid (es.map (fun x => x.1) = allL (xs.take i)) ∧ Hid (OwnN wr w.heap.size (.slice A2 es.length c2) es) ∧ Hid (Below w.heap.size w wr)) (fun _ v _ => xs.length - (intOf v).toNat)
    case atStart => exact ⟨0, [], none, 0, Nat.zero_le _, rfl, rfl, by simp, Lib.hid rfl, Lib.hid (World.ownsRow_nil _ _ _ _), Lib.hid (Below.refl _ _)⟩
    case round =>
      obtain ⟨i, es, A2, c2, hi, rfl, rfl, hel, HM, HO, HB⟩ := hrel
      by_cases hlt : i < xs.length
      case neg =>
        have hq : ¬ ((i : Int) < (xs.length : Int)) := by omega
        have HE := Lib.hid (show es.map (fun x => x.1) = allL xs by have := HM.out; rwa [List.take_of_length_le (by omega)] at this)
        go_wp2_with fail
        go_ret
        exact ⟨HB.out, es, A2, c2, rfl, HE.out, HO.out⟩
      have hq : (i : Int) < (xs.length : Int) := by omega
      have hBw := Nat.le_trans hB HB.out.size
      have hck := cnt_kid hlt
      have hN1 := (H1.out.below (HB.out.mono hB) (Nat.le_refl _)).at_ hlt
      obtain ⟨b, o, rfl, hb, Ak, ck, An, cn, d0, d1, d2, d3, d4, d5, g1, g2, g3, g4, g5, g6, _, _⟩ := hN1
      have hbw : b < wr.heap.size := Nat.lt_of_lt_of_le hb hBw
      have HT := Lib.hid (show allL (xs.take (i + 1)) = allL (xs.take i) ++ xs[i] :: allL xs[i].kids by rw [List.take_succ_eq_append_getElem hlt, allL_app, allL, allN_eq, allL, List.append_nil])
      have hsum : (allL (xs.take i)).length + (1 + cntL xs[i].kids) ≤ cntL xs := by
        have h1 : allL xs = allL (xs.take (i + 1)) ++ allL (xs.drop (i + 1)) := by rw [← allL_app, List.take_append_drop]
        have h2 := HL.out
        rw [h1, HT.out, List.length_append, List.length_append, List.length_cons, allL_len _ xs[i].kids (Nat.le_refl _)] at h2
        omega
      have hes : es.length = (allL (xs.take i)).length := by rw [← HM.out, List.length_map]
      have HD := Lib.hid (fun (w' : World) (hb : Below w.heap.size wr w') => (g6.below (hb.mono hB) (Nat.le_refl _)))
      have HRC : Hid (∀ w', Below w.heap.size wr w' → Calls Tryz.prog 15 #[.slice Ak xs[i].kids.length ck] w' (AllPostT w' xs[i].kids)) :=
        Lib.hid (fun w' hb => ih _ Ak ck B w' (by omega) (by omega) (HD.out w' hb) (Nat.le_trans hBw hb.size) g1)
      have HK := Lib.hid (show es.length + (1 + cntL xs[i].kids) ≤ 10000000 by omega)
      clear g5 g6 ih hck HD hsum hes
      generalize xs[i] = x at *
      have hne := ne_one wr (x, (Ak, x.kids.length, ck), (An, x.ns.length, cn))
      have hbE : Below wr.heap.size wr (wr.alloc (.cells (ne6 (x, (Ak, x.kids.length, ck), (An, x.ns.length, cn))).toArray 49)) := (Below.refl _ _).alloc (Nat.le_refl _) _
      have ho2 := HO.out.below hbE
      have hk1 := HK.out
      go_upto_region 6 with (at_builtin; refine wpList_append_n (base := w.heap.size) (v := .slice A2 es.length c2) (xs := es) (news := [(x, (Ak, x.kids.length, ck), (An, x.ns.length, cn))]) rfl _ _ rfl rfl rfl ho2 hne (fun h => by cases h) (by omega) (by simp) (Nat.le_trans HB.out.size hbE.size) ?_
                             intro A3 t3 c3 w3 HT3 HO3 HB3)
      have HW3 := Lib.hid ((hbE.mono HB.out.size).trans HB3.out.1)
      have hc := HRC.out w3 HW3.out
      have hc3 : ∀ o, w3.cell? ⟨b, o, none⟩ = wr.cell? ⟨b, o, none⟩ := fun o => by unfold World.cell?; rw [HW3.out.block b (Nat.lt_of_lt_of_le hb hB)]
      have d3' := (hc3 _).trans d3
      have hbw3 : b < w3.heap.size := Nat.lt_of_lt_of_le hbw (Nat.le_trans hbE.size HB3.out.1.size)
      have hb3s : w.heap.size ≤ w3.heap.size := Nat.le_trans HB.out.size HW3.out.size
      have ht3 : Hid (t3.length = es.length + 1) := Lib.hid (by rw [HT3.out, List.length_append]; rfl)
      clear hne hbE ho2 d0 d1 d2 d3 d4 d5 hc3 HRC
      go_wp2_with (first
        | (go_at_call 15; refine hc.mono ?_; rintro e w4 ⟨hb4, es4, A4, c4, rfl, hm4, ho4⟩; clear hc
           obtain ⟨hr4, hl4, hA4⟩ := own_rdZ ho4
           have ho3 := HO3.out.below hb4
           have hm5 := Lib.hid hm4
           have hl5 : Hid (es4.length = cntL x.kids) := Lib.hid (by rw [← allL_len _ x.kids (Nat.le_refl _), ← hm4, List.length_map])
           have hbs4 := hb4.size)
        | (at_builtin; refine wpList_append_n (base := w.heap.size) (v := .slice A3 t3.length c3) (xs := t3) (news := es4) rfl _ _ rfl rfl rfl ho3 hr4 hA4 (by have := ht3.out; omega) (by have := hl5.out; omega) (by omega) ?_
           intro A5 t5 c5 w5 HT5 HO5 HB5))
      go_roundw
      case rel => exact ⟨i + 1, t5, A5, c5, by omega, rfl, by simp, by rw [HT5.out, List.length_append, ht3.out, hl5.out]; omega, Lib.hid (by rw [HT5.out, HT3.out, HT.out, List.map_append, List.map_append, HM.out, hm5.out, List.append_assoc]; rfl), HO5, Lib.hid (HB.out.trans (HW3.out.trans ((hb4.mono hb3s).trans HB5.out.1)))⟩
      case measure => simp [intOf]; omega
end Go.Proofs.YtfcceojfcmgmlaaGreatDoor.Fl

/-
  At most so many nodes: Few.
-/
namespace Go.Proofs.YtfcceojfcmgmlaaGreatDoor.Fl
open Go.RowKit Go.Shelf

mutual
def fewN : Nd → Nat → Nat → Nd × Nat
  | .mk k nm nu ks ns a, n, d => (.mk k (nm.take 5000) nu (fewL ks (n - 1) (d - 1)).1 (ns.take 9) a, (fewL ks (n - 1) (d - 1)).2)
def fewL : List Nd → Nat → Nat → List Nd × Nat
  | [], n, _ => ([], n)
  | x :: l, n, d => if n = 0 ∨ d = 0 then ([], n) else ((fewN x n d).1 :: (fewL l (fewN x n d).2 d).1, (fewL l (fewN x n d).2 d).2)
end
theorem fewN_eq (x : Nd) (n d : Nat) : fewN x n d = (.mk x.kd (x.nm.take 5000) x.nu (fewL x.kids (n - 1) (d - 1)).1 (x.ns.take 9) x.at_, (fewL x.kids (n - 1) (d - 1)).2) := by cases x; rfl
theorem fewL_stop (l : List Nd) (n d : Nat) (h : n = 0 ∨ d = 0) : fewL l n d = ([], n) := by
  cases l with
  | nil => rfl
  | cons x l => rw [fewL, if_pos h]
theorem fewL_cons (x : Nd) (l : List Nd) (n d : Nat) (h : ¬ (n = 0 ∨ d = 0)) : fewL (x :: l) n d = ((fewN x n d).1 :: (fewL l (fewN x n d).2 d).1, (fewL l (fewN x n d).2 d).2) := by rw [fewL, if_neg h]
mutual
theorem fewN_cnt : ∀ (x : Nd) (n d : Nat), n ≠ 0 → cntN (fewN x n d).1 + (fewN x n d).2 = n
  | .mk k nm nu ks ns a, n, d, h => by
    rw [fewN, cntN]
    have := fewL_cnt ks (n - 1) (d - 1)
    show 1 + cntL (fewL ks (n - 1) (d - 1)).1 + (fewL ks (n - 1) (d - 1)).2 = n
    omega
theorem fewL_cnt : ∀ (l : List Nd) (n d : Nat), cntL (fewL l n d).1 + (fewL l n d).2 = n
  | [], n, d => by rw [fewL, cntL]; omega
  | x :: l, n, d => by
    by_cases h : n = 0 ∨ d = 0
    · rw [fewL, if_pos h, cntL]; omega
    · rw [fewL, if_neg h, cntL]
      have h1 := fewN_cnt x n d (by omega)
      have h2 := fewL_cnt l (fewN x n d).2 d
      show cntN (fewN x n d).1 + cntL (fewL l (fewN x n d).2 d).1 + (fewL l (fewN x n d).2 d).2 = n
      omega
end
/-- what stands in memory beside one block has not changed -/
structure OvG (R : Nat) (w w' : World) : Prop where
  os : w'.os = w.os
  tape : w'.tape = w.tape
  output : w'.output = w.output
  size : w.heap.size ≤ w'.heap.size
  block : ∀ k, k < w.heap.size → k ≠ R → w'.heap[k]? = w.heap[k]?
theorem OvG.refl (R : Nat) (w : World) : OvG R w w := ⟨rfl, rfl, rfl, Nat.le_refl _, fun _ _ _ => rfl⟩
theorem OvG.trans {R : Nat} {w w1 w2 : World} (h : OvG R w w1) (k : OvG R w1 w2) : OvG R w w2 :=
  ⟨k.os.trans h.os, k.tape.trans h.tape, k.output.trans h.output, Nat.le_trans h.size k.size, fun j hj hn => (k.block j (Nat.lt_of_lt_of_le hj h.size) hn).trans (h.block j hj hn)⟩
theorem OvG.of_below {R : Nat} {w w' : World} (h : Below w.heap.size w w') : OvG R w w' := ⟨h.os, h.tape, h.output, h.size, fun k hk _ => h.block k hk⟩
theorem OvG.set {R : Nat} (w : World) (k : Nat) (v : Value) : OvG R w (w.setCell ⟨R, k, none⟩ v) :=
  ⟨rfl, rfl, rfl, Nat.le_of_eq (by simp [World.setCell]), fun j _ hn => Below.heap_setCell _ _ _ _ hn⟩
/-- a store into a block that is new -/
theorem OvG.new {R X : Nat} {w w1 : World} (h : OvG R w w1) (hX : w.heap.size ≤ X) (k : Nat) (v : Value) : OvG R w (w1.setCell ⟨X, k, none⟩ v) :=
  ⟨h.os, h.tape, h.output, Nat.le_trans h.size (Nat.le_of_eq (by simp [World.setCell])), fun j hj hn => (Below.heap_setCell _ ⟨X, k, none⟩ _ j (show j ≠ X by omega)).trans (h.block j hj hn)⟩
theorem OvG.alloc {R : Nat} {w w1 : World} (h : OvG R w w1) (o : Obj) : OvG R w (w1.alloc o) :=
  h.trans (OvG.of_below ((Below.refl _ _).alloc (Nat.le_refl _) o))
theorem OvG.below {R B : Nat} {w w' : World} (h : OvG R w w') (hB : B ≤ w.heap.size) (hR : B ≤ R) : Below B w w' :=
  ⟨h.os, h.tape, h.output, h.size, fun k hk => h.block k (by omega) (by omega)⟩
theorem OvG.own {R base : Nat} {w w' : World} {v : Value} {l : List NE} (h : OvG R w w') (ho : OwnN w base v l) (hR : R < base) : OwnN w' base v l :=
  ⟨ho.1, ho.2.elim .inl fun ⟨g, cap, cur, hv, hbg, hg, r⟩ => .inr ⟨g, cap, cur, hv, hbg, (h.block g (lt_of_blk hg) (by omega)).trans hg, r⟩⟩
/-- what a node of a row leads to -/
structure Ent (w : World) (P : Nat → Prop) (x : NE) : Prop where
  l1 : x.2.1.2.1 = x.1.kids.length
  l2 : x.2.2.2.1 = x.1.ns.length
  c1 : x.1.kids.length ≤ x.2.1.2.2
  c2 : x.1.ns.length ≤ x.2.2.2.2
  m1 : x.2.1.2.2 ≤ 9223372036854775807
  m2 : x.2.2.2.2 ≤ 9223372036854775807
  ks : NdsAt w P x.2.1.1 x.1.kids
  ns : SrAt w P x.2.2.1 x.1.ns
  n1 : x.2.1.1 = none → x.1.kids = []
  n2 : x.2.2.1 = none → x.1.ns = []
theorem Ent.keep {w w' : World} {P P' : Nat → Prop} {x : NE} (h : Ent w P x) (hk : ∀ b, P b → w'.heap[b]? = w.heap[b]? ∧ P' b) : Ent w' P' x :=
  ⟨h.l1, h.l2, h.c1, h.c2, h.m1, h.m2, h.ks.keep hk, h.ns.keep hk, h.n1, h.n2⟩
theorem ne__get (l : List NE) (i : Nat) (h : i < l.length) (j : Nat) (hj : j < 6) : (ne_ l)[i * 6 + j]? = (ne6 l[i])[j]? := by
  induction l generalizing i with
  | nil => cases h
  | cons x l ih =>
    show (ne6 x ++ ne_ l)[_]? = _
    cases i with
    | zero =>
      rw [Nat.zero_mul, Nat.zero_add, List.getElem?_append_left (by simp [ne6]; omega)]
      rfl
    | succ i =>
      rw [List.getElem?_append_right (by simp [ne6]; omega)]
      have e : (i + 1) * 6 + j - (ne6 x).length = i * 6 + j := by simp [ne6]; omega
      rw [e, ih i (by simpa using h)]
      rfl
theorem nds_of_row {w : World} {P : Nat → Prop} {B : Nat} {A : Option Addr} {l : List NE} (hr : Rd w B A (ne_ l)) (hP : ∀ a, A = some a → P a.block) (he : ∀ x ∈ l, Ent w P x) : NdsAt w P A (l.map fun x => x.1) := by
  rcases hr with h | ⟨b, off, rfl, hb, hc⟩
  · have : l = [] := by
      cases l with
      | nil => rfl
      | cons x l => exact absurd h (by show ne6 x ++ ne_ l ≠ []; simp [ne6])
    subst this
    exact .inl rfl
  · refine .inr ⟨b, off, rfl, hP _ rfl, fun i hi => ?_⟩
    rw [List.length_map] at hi
    rw [List.getElem_map]
    have hx := he _ (List.getElem_mem hi)
    have hg := fun (j : Nat) (hj : j < 6) (v : Value) (hv : (ne6 l[i])[j]? = some v) => hc (i * 6 + j) v ((ne__get l i hi j hj).trans hv)
    generalize l[i] = x at *
    have e0 := hg 0 (by omega) _ rfl
    have e1 := hg 1 (by omega) _ rfl
    have e2 := hg 2 (by omega) _ rfl
    have e3 := hg 3 (by omega) _ rfl
    have e4 := hg 4 (by omega) _ rfl
    have e5 := hg 5 (by omega) _ rfl
    rw [hx.l1] at e3
    rw [hx.l2] at e4
    obtain ⟨⟨kd, nm, nu, ks, ns, at_⟩, ⟨Ak, k1, k2⟩, An, n1, n2⟩ := x
    have hks := hx.ks
    show NdAt w P b (off + i * 6) (.mk kd nm nu ks ns at_)
    by_cases hk0 : ks = []
    · exact .mk Ak k2 An n2 0 0 (hP _ rfl) e0 e1 e2 e3 e4 e5 hx.c1 hx.c2 hx.m1 hx.m2 hx.ns (fun h => absurd hk0 h) (fun i hi => by rw [hk0] at hi; cases hi) hx.n1 hx.n2
    · rcases hks with h | ⟨bk, ok, h1, h2, h3⟩
      · exact absurd h hk0
      · exact .mk Ak k2 An n2 bk ok (hP _ rfl) e0 e1 e2 e3 e4 e5 hx.c1 hx.c2 hx.m1 hx.m2 hx.ns (fun _ => ⟨h1, h2⟩) h3 hx.n1 hx.n2
/-- an argument's blocks, or new ones -/
def Nw (B lo hi : Nat) : Nat → Prop := fun k => k < B ∨ (lo ≤ k ∧ k < hi)
/-- new ones but for the row's own -/
def Nx (B lo hi : Nat) (v : Value) : Nat → Prop := fun k => k < B ∨ (lo ≤ k ∧ k < hi ∧ v.ownBlock ≠ some k)
structure FewI (w0 w : World) (B g : Nat) (es : List NE) (v : Value) (m : Nat) : Prop where
  own : OwnN w w0.heap.size v es
  cell : w.heap[g]? = some (.cells #[.int .i64 (m : Int)] 3 (0, 0))
  ov : OvG g w0 w
  ent : ∀ x ∈ es, Ent w (Nx B w0.heap.size w.heap.size v) x
theorem FewI.more {w0 wr w6 w7 : World} {B g m m' : Nat} {es : List NE} {v v' : Value} {x : NE} (h : FewI w0 wr B g es v m) (hB : B ≤ g) (hgw : g < w0.heap.size) (ho : OvG g wr w6) (hx : Ent w6 (Nw B wr.heap.size w6.heap.size) x)
    (hc : w6.heap[g]? = some (.cells #[.int .i64 (m' : Int)] 3 (0, 0))) (hown : OwnN w7 w0.heap.size v' (es ++ [x])) (hgr : w6.grownBy w7 v.ownBlock) (hat : v'.ownBlock = v.ownBlock ∨ v'.ownBlock = some w6.heap.size) : FewI w0 w7 B g (es ++ [x]) v' m' := by
  have hlo := World.ownsRow.lt h.own
  have hkeep : ∀ k, k < w6.heap.size → some k ≠ v.ownBlock → w7.heap[k]? = w6.heap[k]? := hgr.block
  have hgne : some g ≠ v.ownBlock := fun e => by have := hlo g e.symm; omega
  refine ⟨hown, (hkeep g (lt_of_blk hc) hgne).trans hc, ⟨hgr.os.trans (h.ov.trans ho).os, hgr.tape.trans (h.ov.trans ho).tape, hgr.output.trans (h.ov.trans ho).output, Nat.le_trans (h.ov.trans ho).size hgr.size, fun k hk hn => ?_⟩, fun y hy => ?_⟩
  · exact (hkeep k (Nat.lt_of_lt_of_le hk (h.ov.trans ho).size) (fun e => by have := hlo k e.symm; omega)).trans ((h.ov.trans ho).block k hk hn)
  · rcases List.mem_append.1 hy with hy | hy
    · refine (h.ent y hy).keep fun k hk => ?_
      have hk1 : k < wr.heap.size ∧ some k ≠ v.ownBlock ∧ k ≠ g := by
        rcases hk with hk | ⟨a, b, c⟩
        · have := h.ov.size
          exact ⟨by omega, fun e => by have := hlo k e.symm; omega, by omega⟩
        · exact ⟨b, fun e => c e.symm, by omega⟩
      have hk2 : k < w6.heap.size := Nat.lt_of_lt_of_le hk1.1 ho.size
      refine ⟨(hkeep k hk2 hk1.2.1).trans (ho.block k hk1.1 hk1.2.2), ?_⟩
      rcases hk with hk | ⟨a, b, c⟩
      · exact .inl hk
      · refine .inr ⟨a, Nat.lt_of_lt_of_le hk2 hgr.size, ?_⟩
        rcases hat with e | e <;> rw [e]
        · exact c
        · intro e; injection e with e; omega
    · rw [List.mem_singleton.1 hy]
      refine hx.keep fun k hk => ?_
      have hs := h.ov.size
      have hk1 : k < w6.heap.size ∧ some k ≠ v.ownBlock := by
        rcases hk with hk | ⟨a, b⟩
        · have := ho.size
          exact ⟨by omega, fun e => by have := hlo k e.symm; omega⟩
        · exact ⟨b, fun e => by have := hlo k e.symm; omega⟩
      refine ⟨hkeep k hk1.1 hk1.2, ?_⟩
      rcases hk with hk | ⟨a, b⟩
      · exact .inl hk
      · refine .inr ⟨by omega, Nat.lt_of_lt_of_le b hgr.size, ?_⟩
        rcases hat with e | e <;> rw [e]
        · intro e; have := hlo k e; omega
        · intro e; injection e with e; omega
def FewT (w0 : World) (B g : Nat) (r : List Nd × Nat) (e : Ending) (w : World) : Prop :=
  OvG g w0 w ∧ w.heap[g]? = some (.cells #[.int .i64 (r.2 : Int)] 3 (0, 0)) ∧ ∃ A c, e = .returned (.slice A r.1.length c) ∧ r.1.length ≤ c ∧ c ≤ 9223372036854775807 ∧ NdsAt w (Nw B w0.heap.size w.heap.size) A r.1 ∧ (A = none → r.1 = [])
theorem FewI.fin {w0 w : World} {B g c m : Nat} {es : List NE} {A : Option Addr} (h : FewI w0 w B g es (.slice A es.length c) m) : FewT w0 B g (es.map fun x => x.1, m) (.returned (.slice A es.length c)) w := by
  have hlo := World.ownsRow.lt h.own
  obtain ⟨hr, hl, hA⟩ := own_rdZ h.own
  have hcap : c ≤ 9223372036854775807 := by
    rcases h.own.2 with ⟨e, _⟩ | ⟨_, cap, _, e, _, _, _, hm, _⟩
    · injection e with _ _ e; omega
    · injection e with _ _ e; unfold maxLen at hm; omega
  refine ⟨h.ov, h.cell, A, c, by simp, by simpa using hl, hcap, nds_of_row hr (fun a e => ?_) (fun x hx => (h.ent x hx).keep fun k hk => ⟨rfl, ?_⟩), fun e => ?_⟩
  · subst e; have := hlo a.block rfl; exact .inr this
  · rcases hk with hk | ⟨a, b, _⟩
    · exact .inl hk
    · exact .inr ⟨a, b⟩
  · have := hA e
    cases es with
    | nil => rfl
    | cons x l => cases this
end Go.Proofs.YtfcceojfcmgmlaaGreatDoor.Fl

/-
  At most so many nodes: the law's Few, walked.
-/
namespace Go.Proofs.YtfcceojfcmgmlaaGreatDoor.Fl
open Go.RowKit Go.Shelf

theorem FewI.step {w0 wr w1 : World} {B g m m' : Nat} {es : List NE} {v : Value} (h : FewI w0 wr B g es v m) (hB : B ≤ g) (hgw : g < w0.heap.size) (ho : OvG g wr w1) (hc : w1.heap[g]? = some (.cells #[.int .i64 (m' : Int)] 3 (0, 0))) : FewI w0 w1 B g es v m' :=
  ⟨ho.own h.own hgw, hc, h.ov.trans ho, fun y hy => (h.ent y hy).keep fun k hk => by
    have hs := h.ov.size
    have hs2 := ho.size
    rcases hk with hk | ⟨a, b, c⟩
    · exact ⟨ho.block k (by omega) (by omega), .inl hk⟩
    · exact ⟨ho.block k b (by omega), .inr ⟨a, by omega, c⟩⟩⟩
theorem SrAt.take {w : World} {P : Nat → Prop} {A : Option Addr} {l : List (List UInt8)} (h : SrAt w P A l) (k : Nat) : SrAt w P A (l.take k) := by
  rcases h with h | ⟨b, off, rfl, hb, hc⟩
  · rw [h]; exact .inl (by simp)
  · refine .inr ⟨b, off, rfl, hb, fun j v hj => hc j v ?_⟩
    simp only [cs_, List.getElem?_map, List.getElem?_take] at hj ⊢
    split at hj
    · exact hj
    · simp at hj
theorem cells1T {w : World} {g : Nat} {v : Value} {T : TypeId} (h : w.heap[g]? = some (.cells #[v] T (0, 0))) : w.cell? ⟨g, 0, none⟩ = some v ∧ ∀ k, w.frozen? ⟨g, k, none⟩ = false :=
  ⟨cell_of_row _ _ _ _ _ _ h, fun _ => frozen_of_row _ _ _ _ _ h⟩
theorem wpList_append_f {w : World} {base c : Nat} {A : Option Addr} {xs news : List NE} {v : Value} {ops : Array Oper} {rest : List Oper} {o : Oper} {a : Act} {Q : Exit → Act → World → Prop} (hg : o.guard = none) (s x : Operand) (ho : o.op = .call { callee := .builtin .append, args := #[s, x], argTypes := #[23, 23] })
    (hs : a.eval s = v) (hx : a.eval x = .slice A news.length c) (hown : OwnN w base v xs) (hr : Rd w w.heap.size A (ne_ news)) (hA : A = none → news.length = 0) (hl : xs.length ≤ 100000000) (hl2 : news.length ≤ 100000000) (hb : base ≤ w.heap.size)
    (h : ∀ A' ts c' w', Hid (ts = xs ++ news) → Hid (OwnN w' base (.slice A' ts.length c') ts) → Hid (w.grownBy w' v.ownBlock ∧ ((Value.slice A' ts.length c').ownBlock = v.ownBlock ∨ (Value.slice A' ts.length c').ownBlock = some w.heap.size)) → wpList Tryz.prog ops Q rest (a.put o.dst (.slice A' ts.length c')) w') :
    wpList Tryz.prog ops Q (o :: rest) a w := by
  obtain ⟨i0, hi, hz0, hz1, hz2⟩ := info_parts nodeinfoR
  refine wpList_append_rd (base := base) (size := 6) (bytes := 88) (n := xs.length) (m := news.length) (c := c) (v := v) (xs := ne_ xs) (news := ne_ news) hg s x ho Tryz.underlying23 hi hz0 hz1 hz2 rfl (by decide) hs hx hown hr (ne__len _) hA (ne__one _) (by unfold maxLen; omega) (by omega) hb ?_
  intro v' w' happ
  obtain ⟨A', c', rfl, _, _⟩ := happ.slice
  have e : xs.length + news.length = (xs ++ news).length := by simp
  have ho := happ.own
  have hat := happ.at_
  rw [e, show ne_ xs ++ ne_ news = ne_ (xs ++ news) from (ne__app _ _).symm] at ho
  rw [e] at hat ⊢
  exact h A' (xs ++ news) c' w' (Lib.hid rfl) (Lib.hid ho) (Lib.hid ⟨happ.grown, hat⟩)
set_option maxRecDepth 100000 in
set_option maxHeartbeats 8000000 in
theorem rfew_any (d : Nat) : ∀ (xs : List Nd) (A : Option Addr) (c B g n : Nat) (w : World), d ≤ 60 → n ≤ 200 → NdsAt w (Lo B) A xs → B ≤ g → w.heap[g]? = some (.cells #[.int .i64 (n : Int)] 3 (0, 0)) → xs.length ≤ c → c ≤ 9223372036854775807 →
    Calls Tryz.prog 23 #[.slice A xs.length c, .pointer (some ⟨g, 0, none⟩), .int .i64 (d : Int)] w (FewT w B g (fewL xs n d)) := by
  induction d using Nat.strongRecOn with
  | _ d ih =>
    intro xs A c B g n w hd hn h hB hg hc hc2
    have H1 := Lib.hid h
    have HG := Lib.hid hg
    have hgw := lt_of_blk hg
    clear h hg
    go_enter Tryz.func23, Tryz.ntmps23
    go_wp2_with fail
    go_loopw [7, 12] (fun u v wr => ∃ (i : Nat) (es : List NE) (A2 : Option Addr) (c2 m : Nat), i ≤ xs.length ∧ u = .slice A2 es.length c2 ∧ v = .int .i64 (i : Int) ∧ es.length + m ≤ 200 ∧ Hid (FewI w wr B g es (.slice A2 es.length c2) m) ∧ Hid (fewL xs n d = (es.map (fun x => x.1) ++ (fewL (xs.drop i) m d).1, (fewL (xs.drop i) m d).2))) (fun _ v _ => xs.length - (intOf v).toNat)
    case atStart => exact ⟨0, [], none, 0, n, Nat.zero_le _, rfl, rfl, by simpa using hn, Lib.hid ⟨World.ownsRow_nil _ _ _ _, HG.out, OvG.refl _ _, fun x hx => by cases hx⟩, Lib.hid rfl⟩
    case round =>
      obtain ⟨i, es, A2, c2, m, hi, rfl, rfl, hem, HF, HM⟩ := hrel
      by_cases hlt : i < xs.length
      case neg =>
        have hq : ¬ ((i : Int) < (xs.length : Int)) := by omega
        have HE := Lib.hid (show fewL xs n d = (es.map fun x => x.1, m) by have := HM.out; rw [List.drop_eq_nil_of_le (by omega), fewL, List.append_nil] at this; exact this)
        go_wp2_with fail
        go_ret
        rw [HE.out]
        exact HF.out.fin
      have hq : (i : Int) < (xs.length : Int) := by omega
      have hws := HF.out.ov.size
      have hN1 := (H1.out.below (HF.out.ov.below (by omega) hB) (Nat.le_refl _)).at_ hlt
      obtain ⟨b, o, rfl, hb, Ak, ck, An, cn, d0, d1, d2, d3, d4, d5, g1, g2, g3, g4, g5, g6, g7, g8⟩ := hN1
      have hb : b < B := hb
      have hbw : b < wr.heap.size := by omega
      have hdr : xs.drop i = xs[i] :: xs.drop (i + 1) := List.drop_eq_getElem_cons hlt
      generalize xs[i] = x at *
      obtain ⟨X, hX⟩ : ∃ X, wr.heap.size = X := ⟨_, rfl⟩
      obtain ⟨W1, hW1⟩ : ∃ W1, wr.alloc (.cells #[.int .i64 x.kd, .string (mkB x.nm), .int .i64 x.nu, .slice Ak x.kids.length ck, .slice An x.ns.length cn, .int .i64 x.at_] 49) = W1 := ⟨_, rfl⟩
      have hov1 : OvG g wr W1 := by rw [← hW1]; exact (OvG.refl _ _).alloc _
      have hg1 : W1.heap[g]? = some (.cells #[.int .i64 (m : Int)] 3 (0, 0)) := by
        rw [← hW1]; exact (Below.heap_alloc _ _ _ (lt_of_blk HF.out.cell)).trans HF.out.cell
      have hx1 : W1.heap[X]? = some (.cells #[.int .i64 x.kd, .string (mkB x.nm), .int .i64 x.nu, .slice Ak x.kids.length ck, .slice An x.ns.length cn, .int .i64 x.at_] 49 (0, 0)) := by
        rw [← hW1, ← hX]; exact heap_alloc_new wr _
      have HX1 := Lib.hid (And.intro hx1 (And.intro hg1 hov1))
      have HS := Lib.hid (And.intro g5 (And.intro g6 (And.intro g7 g8)))
      clear g5 g6 g7 g8 hx1 hg1 hov1
      go_upto_region 5 with fail
      try simp only [hW1, hX]
      have HW := Lib.hid hX
      clear hW1 hX d0 d1 d2 d3 d4 d5 hbw
      have f1 := cells1T HX1.out.2.1
      have l1 := lt_of_blk HX1.out.2.1
      by_cases hst : m = 0 ∨ d = 0
      case pos =>
        have HE := Lib.hid (show fewL xs n d = (es.map fun x => x.1, m) by have := HM.out; rw [fewL_stop _ _ _ hst, List.append_nil] at this; exact this)
        have HF1 := Lib.hid (HF.out.step hB hgw HX1.out.2.2 HX1.out.2.1)
        rcases hst with h0 | h0
        · have hq2 : (m : Int) ≤ 0 := by omega
          go_wp2_with fail
          go_ret
          rw [HE.out]
          exact HF1.out.fin
        · have hq2 : (d : Int) ≤ 0 := by omega
          have HE0 := Lib.hid (show fewL xs n 0 = (es.map fun x => x.1, m) by rw [← h0]; exact HE.out)
          by_cases hm0 : (m : Int) ≤ 0
          · go_wp2_with fail
            go_ret
            first | rw [HE0.out] | rw [HE.out]
            exact HF1.out.fin
          · go_wp2_with fail
            go_ret
            first | rw [HE0.out] | rw [HE.out]
            exact HF1.out.fin
      have hm1 : 1 ≤ m := by omega
      have hd1 : 1 ≤ d := by omega
      have hq3 : ¬ (m : Int) ≤ 0 := by omega
      have hq4 : ¬ (d : Int) ≤ 0 := by omega
      go_upto_region 7 with fail
      have em : ((m : Int) - 1) = ((m - 1 : Nat) : Int) := by omega
      have hg2 := heap_setCell_same W1 g 0 _ _ (.int .i64 ((m - 1 : Nat) : Int)) HX1.out.2.1
      have hx2 := (Below.heap_setCell W1 ⟨g, 0, none⟩ (.int .i64 ((m - 1 : Nat) : Int)) X (show X ≠ g by have := HW.out; omega)).trans HX1.out.1
      have ho2 := HX1.out.2.2.trans (OvG.set W1 0 (.int .i64 ((m - 1 : Nat) : Int)))
      rw [em]
      generalize W1.setCell ⟨g, 0, none⟩ (.int .i64 ((m - 1 : Nat) : Int)) = W2 at *
      have HX2 := Lib.hid (And.intro hx2 (And.intro hg2 ho2))
      have HWm := Lib.hid em
      clear hx2 hg2 ho2 f1 l1 HX1 em
      have f2 := cells6T HX2.out.1
      have l2 := lt_of_blk HX2.out.1
      go_upto_if 32 with fail
      go_cut [] (fun wx => ∃ nm2, Hid (nm2 = x.nm.take 5000) ∧ Hid (wx.heap[X]? = some (.cells #[.int .i64 x.kd, .string (mkB nm2), .int .i64 x.nu, .slice Ak x.kids.length ck, .slice An x.ns.length cn, .int .i64 x.at_] 49 (0, 0)) ∧ wx.heap[g]? = some (.cells #[.int .i64 ((m - 1 : Nat) : Int)] 3 (0, 0)) ∧ OvG g wr wx))
      case first =>
        have hzt : ((mkB x.nm).size : Int) = (x.nm.length : Int) := by rw [mkL_size]
        have hext : (mkB x.nm).extract 0 5000 = mkB (x.nm.take 5000) := by
          apply ByteArray.ext
          simp
        by_cases h8 : 5000 < x.nm.length
        · have h8i : (5000 : Int) < (x.nm.length : Int) := by omega
          have h8j : (5000 : Int) ≤ (x.nm.length : Int) := by omega
          go_wp2_with fail
          go_meet
          try rw [hext]
          exact ⟨x.nm.take 5000, Lib.hid rfl, Lib.hid ⟨heap_setCell_same _ X 1 _ _ _ HX2.out.1, (Below.heap_setCell W2 ⟨X, 1, none⟩ _ g (show g ≠ X by have := HW.out; omega)).trans HX2.out.2.1, HX2.out.2.2.new (Nat.le_of_eq HW.out) 1 _⟩⟩
        · have h8i : ¬ (5000 : Int) < (x.nm.length : Int) := by omega
          go_wp2_with fail
          go_meet
          exact ⟨x.nm, Lib.hid (by rw [List.take_of_length_le (by omega)]), HX2⟩
      case rest =>
      obtain ⟨nm2, HNM, HX3⟩ := hcut
      clear f2 l2 HX2
      have f3 := cells6T HX3.out.1
      have l3 := lt_of_blk HX3.out.1
      go_upto_if 40 with fail
      go_cut [] (fun wx => ∃ ns2 : List (List UInt8), Hid (ns2 = x.ns.take 9) ∧ Hid (wx.heap[X]? = some (.cells #[.int .i64 x.kd, .string (mkB nm2), .int .i64 x.nu, .slice Ak x.kids.length ck, .slice An ns2.length cn, .int .i64 x.at_] 49 (0, 0)) ∧ wx.heap[g]? = some (.cells #[.int .i64 ((m - 1 : Nat) : Int)] 3 (0, 0)) ∧ OvG g wr wx))
      case first =>
        by_cases h8 : 9 < x.ns.length
        · have h8i : (9 : Int) < (x.ns.length : Int) := by omega
          have h9 : (x.ns.take 9).length = 9 := by rw [List.length_take]; omega
          obtain ⟨a0, ha0⟩ : ∃ a0, An = some a0 := by
            cases hAn : An with
            | none => have := HS.out.2.2.2 hAn; rw [this] at h8; cases h8
            | some a0 => exact ⟨a0, rfl⟩
          subst ha0
          go_wp2_with fail
          go_meet
          exact ⟨x.ns.take 9, Lib.hid rfl, by rw [h9]; exact Lib.hid ⟨heap_setCell_same _ X 4 _ _ _ HX3.out.1, (Below.heap_setCell wc ⟨X, 4, none⟩ _ g (show g ≠ X by have := HW.out; omega)).trans HX3.out.2.1, HX3.out.2.2.new (Nat.le_of_eq HW.out) 4 _⟩⟩
        · have h8i : ¬ (9 : Int) < (x.ns.length : Int) := by omega
          go_wp2_with fail
          go_meet
          exact ⟨x.ns, Lib.hid (by rw [List.take_of_length_le (by omega)]), HX3⟩
      case rest =>
      clear f3 l3
      obtain ⟨ns2, HNS, HX4⟩ := hcut
      clear HX3
      have hc := ih (d - 1) (by omega) x.kids Ak ck B g (m - 1) wc (by omega) (by omega) (HS.out.2.1.below (HX4.out.2.2.below (by omega) hB) (Nat.le_refl _)) hB HX4.out.2.1 g1 g3
      have ed : ((d : Int) - 1) = ((d - 1 : Nat) : Int) := by omega
      have hrc := fewL_cnt x.kids (m - 1) (d - 1)
      have HM1 := Lib.hid (show fewL xs n d = ((es ++ [((Nd.mk x.kd nm2 x.nu (fewL x.kids (m - 1) (d - 1)).1 ns2 x.at_, (none, 0, 0), (none, 0, 0)) : NE)]).map (fun x => x.1) ++ (fewL (xs.drop (i + 1)) (fewL x.kids (m - 1) (d - 1)).2 d).1, (fewL (xs.drop (i + 1)) (fewL x.kids (m - 1) (d - 1)).2 d).2) by
        rw [HM.out, hdr, fewL_cons _ _ _ _ hst, fewN_eq, HNM.out, HNS.out, List.map_append, List.append_assoc]; rfl)
      obtain ⟨r, hr⟩ : ∃ r, fewL x.kids (m - 1) (d - 1) = r := ⟨_, rfl⟩
      rw [hr] at hc hrc HM1
      have f4 := cells6T HX4.out.1
      have l4 := lt_of_blk HX4.out.1
      have hXg : X ≠ g := by have := HW.out; omega
      have hBX : B ≤ X := by have := HW.out; omega
      go_upto_region 12 with (go_at_call 23; refine hc.mono ?_; rintro e w5 ⟨ho5, hc5, A5, c5, rfl, hl5, hm5, hn5, hz5⟩; clear hc; have hx5 := (ho5.block X l4 hXg).trans HX4.out.1; have f5 := cells6T hx5; have l5 := lt_of_blk hx5)
      have hx6 := heap_setCell_same w5 X 3 _ _ (.slice A5 r.1.length c5) hx5
      have hc6 := (Below.heap_setCell w5 ⟨X, 3, none⟩ (.slice A5 r.1.length c5) g (show g ≠ X from hXg.symm)).trans hc5
      have ho6 := (HX4.out.2.2.trans ho5).new (Nat.le_of_eq HW.out) 3 (.slice A5 r.1.length c5)
      have hk6 : ∀ k, k ≠ X → (w5.setCell ⟨X, 3, none⟩ (.slice A5 r.1.length c5)).heap[k]? = w5.heap[k]? := fun k hk => Below.heap_setCell w5 ⟨X, 3, none⟩ _ k hk
      have hs6 : (w5.setCell ⟨X, 3, none⟩ (.slice A5 r.1.length c5)).heap.size = w5.heap.size := by simp [World.setCell]
      generalize w5.setCell ⟨X, 3, none⟩ (.slice A5 r.1.length c5) = w6 at *
      clear f4 f5 l5 hdr
      have f6 := cells6T hx6
      have l6 := lt_of_blk hx6
      have hyr0 := ne_one w6 (Nd.mk x.kd nm2 x.nu r.1 ns2 x.at_, (A5, r.1.length, c5), (An, ns2.length, cn))
      obtain ⟨y, hy⟩ : ∃ y : NE, y = (Nd.mk x.kd nm2 x.nu r.1 ns2 x.at_, (A5, r.1.length, c5), (An, ns2.length, cn)) := ⟨_, rfl⟩
      have hal := (OvG.refl g w6).alloc (.cells (ne6 (Nd.mk x.kd nm2 x.nu r.1 ns2 x.at_, (A5, r.1.length, c5), (An, ns2.length, cn))).toArray 49)
      have HOWN := Lib.hid ((ho6.trans hal).own HF.out.own hgw)
      have HEN : Hid (Ent (w6.alloc (.cells (ne6 (Nd.mk x.kd nm2 x.nu r.1 ns2 x.at_, (A5, r.1.length, c5), (An, ns2.length, cn))).toArray 49)) (Nw B wr.heap.size (w6.alloc (.cells (ne6 (Nd.mk x.kd nm2 x.nu r.1 ns2 x.at_, (A5, r.1.length, c5), (An, ns2.length, cn))).toArray 49)).heap.size) y) := by
        have hsz := hal.size
        rw [hy]
        refine Lib.hid ⟨rfl, rfl, hl5, ?_, hm5, g4, hn5.keep fun k hk => ?_, ?_, hz5, ?_⟩
        · show ns2.length ≤ cn
          rw [HNS.out, List.length_take]; omega
        · have h1 := ho5.size
          have h2 := HX4.out.2.2.size
          have h3 := HW.out
          rcases hk with hk | ⟨a1, a2⟩
          · exact ⟨(hal.block k (by omega) (by omega)).trans (hk6 k (by omega)), .inl hk⟩
          · have hkg : k ≠ g := by omega
            exact ⟨(hal.block k (by omega) hkg).trans (hk6 k (by omega)), .inr ⟨by omega, by omega⟩⟩
        · show SrAt _ _ An ns2
          have h9 := HS.out.1.take 9
          rw [← HNS.out] at h9
          refine h9.keep fun k hk => ?_
          have hk : k < B := hk
          exact ⟨(ho6.trans hal).block k (by omega) (by omega), .inl hk⟩
        · intro e
          show ns2 = []
          rw [HNS.out, HS.out.2.2.2 e]; rfl
      have HC6 := Lib.hid ((hal.block g (lt_of_blk hc6) |> fun _ => Below.heap_alloc w6 (.cells (ne6 (Nd.mk x.kd nm2 x.nu r.1 ns2 x.at_, (A5, r.1.length, c5), (An, ns2.length, cn))).toArray 49) g (lt_of_blk hc6)).trans hc6)
      have HO6 := Lib.hid (ho6.trans hal)
      have hs0 : w.heap.size ≤ (w6.alloc (.cells (ne6 (Nd.mk x.kd nm2 x.nu r.1 ns2 x.at_, (A5, r.1.length, c5), (An, ns2.length, cn))).toArray 49)).heap.size := Nat.le_trans hws (ho6.trans hal).size
      have HY := Lib.hid hy
      clear hs6 ih hx5 hc5 hn5 hx6 hc6 ho6 hk6 ho5 hal hy
      have hyr : Rd (w6.alloc (.cells (ne6 (Nd.mk x.kd nm2 x.nu r.1 ns2 x.at_, (A5, r.1.length, c5), (An, ns2.length, cn))).toArray 49)) (w6.alloc (.cells (ne6 (Nd.mk x.kd nm2 x.nu r.1 ns2 x.at_, (A5, r.1.length, c5), (An, ns2.length, cn))).toArray 49)).heap.size (some ⟨w6.heap.size, 0, none⟩) (ne_ [y]) := by rw [HY.out]; exact hyr0
      clear hyr0
      go_wp2_with (at_builtin; refine wpList_append_f (base := w.heap.size) (v := .slice A2 es.length c2) (xs := es) (news := [y]) rfl _ _ rfl rfl rfl HOWN.out hyr (fun h => by cases h) (by omega) (by simp) hs0 ?_
                   intro A7 t7 c7 w7 HT7 HO7 HB7)
      go_roundw
      case rel =>
        have hF7 := FewI.more (m' := r.2) HF.out hB hgw HO6.out HEN.out HC6.out (by rw [← HT7.out]; exact HO7.out) HB7.out.1 HB7.out.2
        rw [← HT7.out] at hF7
        refine ⟨i + 1, t7, A7, c7, r.2, by omega, rfl, by simp, by rw [HT7.out, List.length_append, List.length_singleton]; omega, Lib.hid hF7, Lib.hid ?_⟩
        rw [HT7.out, HM1.out, HY.out]
        simp
      case measure => simp [intOf]; omega
end Go.Proofs.YtfcceojfcmgmlaaGreatDoor.Fl
