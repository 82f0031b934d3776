/-
  The program's names: of a list of texts, is each a name?
-/
import Derived.Test.YtmdkneollidkfaaGreatDoorCkA
import Derived.Test.YtmdkneollidkfaaGreatDoorLzD
import Derived.Test.YtmdkneollidkfaaGreatDoorLxAr
import Derived.Deep.RegionHeld3
import Derived.Sort.BigQuietIn
namespace Go.Proofs.YtmdkneollidkfaaGreatDoor.Fl
open Go.RowKit

theorem isNameK_any (s : ByteArray) (w : World) (hs : s.size ≤ 16777216) :
    Calls Tryz.prog 54 #[.string s] w fun e w' => e = .returned (.bool (arityL s == 0)) ∧ Below w.heap.size w w' := by
  have h := arity_any s w hs
  generalize arityL s = a at *
  go_enter Tryz.func54, Tryz.ntmps54
  go_wp2_with fail
  refine h.mono ?_
  rintro e w' ⟨rfl, hb⟩
  go_wp2_with fail
  go_ret
  exact ⟨rfl, hb⟩
set_option maxRecDepth 100000 in
set_option maxHeartbeats 4000000 in
/-- all of a list of texts are names -/
theorem allK_any (l : List (List UInt8)) (A : Option Addr) (c B : Nat) (w : World) (hr : Rd w B A (cs_ l)) (hB : B ≤ w.heap.size) (hc : l.length ≤ c) (hl : l.length ≤ 100000000) (hs : ∀ x ∈ l, x.length ≤ 16777216) :
    Calls Tryz.prog 55 #[.slice A l.length c, .func (.func 54) #[] #[]] w fun e w' => e = .returned (.bool (namesOk l)) ∧ Below w.heap.size w w' := by
  have HN := Lib.hid (fun (x : List UInt8) (hx : x.length ≤ 16777216) (w : World) => isNameK_any (mkB x) w (by show x.toArray.size ≤ _; simpa using hx))
  have HS := Lib.hid hs
  have HRd := Lib.hid hr
  clear hs hr
  go_enter Tryz.func55, Tryz.ntmps55
  go_wp2_with fail
  go_loopw [9] (fun v wr => ∃ i : Nat, i ≤ l.length ∧ v = .int .i64 (i : Int) ∧ Hid (namesOk (l.take i) = true) ∧ Hid (Below w.heap.size w wr)) (fun v _ => l.length - (intOf v).toNat)
  case atStart => exact ⟨0, Nat.zero_le _, rfl, Lib.hid rfl, Lib.hid (Below.refl _ _)⟩
  case round =>
    obtain ⟨i, hi, rfl, HT, HB⟩ := hrel
    by_cases hlt : i < l.length
    case neg =>
      have e : i = l.length := by omega
      have hq : ¬ ((i : Int) < (l.length : Int)) := by omega
      have HE := Lib.hid (show namesOk l = true by have := HT.out; rwa [e, List.take_length] at this)
      clear e HT
      go_wp2_with fail
      go_ret
      exact ⟨by rw [HE.out]; rfl, HB.out⟩
    have hq : (i : Int) < (l.length : Int) := by omega
    obtain ⟨b, o, rfl, hb, hcell⟩ := rdS_at (HRd.out.below HB.out hB) hlt
    have hn := HN.out l[i] (HS.out _ (List.getElem_mem hlt)) wr
    have HM := Lib.hid (namesOk_more l hlt)
    obtain ⟨t, ht⟩ : ∃ t, (arityL (mkB l[i]) == 0) = t := ⟨_, rfl⟩
    rw [ht] at hn HM
    have HTi := Lib.hid ht
    clear ht
    go_wp2_with fail
    refine hn.mono ?_
    rintro e w' ⟨rfl, hb2⟩
    have HB2 := Lib.hid (HB.out.trans (hb2.mono HB.out.size))
    clear hn hb2 HB hcell
    cases t
    · have HE := Lib.hid (show namesOk l = false by
        unfold namesOk
        rw [List.all_eq_false]
        exact ⟨l[i], List.getElem_mem hlt, by rw [HTi.out]; decide⟩)
      go_wp2_with fail
      go_ret
      exact ⟨by rw [HE.out]; rfl, HB2.out⟩
    · have HT2 := Lib.hid (show namesOk (l.take (i + 1)) = true by rw [HM.out, HT.out]; rfl)
      go_wp2_with fail
      go_roundw
      case rel => exact ⟨i + 1, by omega, rfl, HT2, HB2⟩
      case measure => simp [intOf]; omega
end Go.Proofs.YtmdkneollidkfaaGreatDoor.Fl

/-
  The program's isClass.
-/
namespace Go.Proofs.YtmdkneollidkfaaGreatDoor.Fl
open Go.RowKit

def isClassR (nm sp : List UInt8) (fs : List (List UInt8)) : Bool := arityL (mkB nm) == 0 && (sp == [] || (arityL (mkB sp) == 0 && sp != nilL)) && namesOk fs
set_option maxRecDepth 100000 in
set_option maxHeartbeats 4000000 in
theorem isClassK_any (nm sp : List UInt8) (fs : List (List UInt8)) (at_ : Int) (A : Option Addr) (c B : Nat) (w : World) (hr : Rd w B A (cs_ fs)) (hB : B ≤ w.heap.size) (hc : fs.length ≤ c) (hl : fs.length ≤ 100000000) (hs : ∀ x ∈ fs, x.length ≤ 16777216) (h1 : nm.length ≤ 16777216) (h2 : sp.length ≤ 16777216) :
    Calls Tryz.prog 35 #[.agg #[.string (mkB nm), .string (mkB sp), .slice A fs.length c, .int .i64 at_]] w fun e w' => e = .returned (.bool (isClassR nm sp fs)) ∧ Below w.heap.size w w' := by
  obtain ⟨r, hR0⟩ : ∃ r, isClassR nm sp fs = r := ⟨_, rfl⟩
  rw [hR0]
  have HR := Lib.hid hR0
  unfold isClassR at HR
  clear hR0
  have HN := Lib.hid (fun (x : List UInt8) (hx : x.length ≤ 16777216) (w : World) => isNameK_any (mkB x) w (by show x.toArray.size ≤ _; simpa using hx))
  have HA := Lib.hid (fun (w' : World) (hb : Below w.heap.size w w') => allK_any fs A c B w' (hr.below hb hB) (Nat.le_trans hB hb.size) hc hl hs)
  have H12 := Lib.hid (And.intro h1 h2)
  clear hr hs h1 h2
  have hw0 := heap_alloc_new w (.cells #[.string (mkB nm), .string (mkB sp), .slice A fs.length c, .int .i64 at_] 87)
  have hb0 : Below w.heap.size w (w.alloc (.cells #[.string (mkB nm), .string (mkB sp), .slice A fs.length c, .int .i64 at_] 87)) := (Below.refl _ _).alloc (Nat.le_refl _) _
  go_enter Tryz.func35, Tryz.ntmps35
  go_upto_region 1 with fail
  have HB1 := Lib.hid hb0
  generalize w.alloc (.cells #[.string (mkB nm), .string (mkB sp), .slice A fs.length c, .int .i64 at_] 87) = w1 at *
  obtain ⟨R, hR⟩ : ∃ R, w.heap.size = R := ⟨_, rfl⟩
  rw [hR] at hw0
  simp only [hR]
  have HW1 := Lib.hid hw0
  clear hw0 hb0 hR
  have f := cells4L HW1.out
  have l := lt_of_blk HW1.out
  have hn1 := HN.out nm H12.out.1 w1
  obtain ⟨t1, ht1⟩ : ∃ t, (arityL (mkB nm) == 0) = t := ⟨_, rfl⟩
  rw [ht1] at hn1 HR
  obtain ⟨t2, ht2⟩ : ∃ t, (sp == []) = t := ⟨_, rfl⟩
  obtain ⟨t4, ht4⟩ : ∃ t, (sp == [110, 105, 108]) = t := ⟨_, rfl⟩
  have ht4' : (sp != nilL) = !t4 := by rw [← ht4]; rfl
  rw [ht2, ht4'] at HR
  clear ht4'
  go_wp2_with fail
  refine hn1.mono ?_
  rintro e w2 ⟨rfl, hb2⟩
  have HB2 := Lib.hid (HB1.out.trans (hb2.mono HB1.out.size))
  have HW2 := Lib.hid ((hb2.block _ l).trans HW1.out)
  clear f l hn1 hb2 ht1 HW1 HB1
  have f := cells4L HW2.out
  have l := lt_of_blk HW2.out
  cases t1
  · have HE := Lib.hid (show r = false by rw [← HR.out]; rfl)
    clear HR
    go_wp2_with fail
    go_ret
    exact ⟨by rw [HE.out]; rfl, HB2.out⟩
  cases t2
  · have hn2 := HN.out sp H12.out.2 w2
    obtain ⟨t3, ht3⟩ : ∃ t, (arityL (mkB sp) == 0) = t := ⟨_, rfl⟩
    rw [ht3] at hn2 HR
    clear ht3
    go_wp2_with fail
    refine hn2.mono ?_
    rintro e w3 ⟨rfl, hb3⟩
    have HB3 := Lib.hid (HB2.out.trans (hb3.mono HB2.out.size))
    have HW3 := Lib.hid ((hb3.block _ l).trans HW2.out)
    clear f l hn2 hb3 HW2 HB2
    have f := cells4L HW3.out
    have l := lt_of_blk HW3.out
    cases t3
    · have HE := Lib.hid (show r = false by rw [← HR.out]; rfl)
      clear HR
      go_wp2_with fail
      go_ret
      exact ⟨by rw [HE.out]; rfl, HB3.out⟩
    cases t4
    · obtain ⟨t5, ht5⟩ : ∃ t, namesOk fs = t := ⟨_, rfl⟩
      have ha := HA.out w3 HB3.out
      rw [ht5] at ha HR
      clear ht5
      go_wp2_with fail
      refine ha.mono ?_
      rintro e w9 ⟨rfl, hb9⟩
      have HB9 := Lib.hid (HB3.out.trans (hb9.mono HB3.out.size))
      have HE := Lib.hid (show r = t5 by rw [← HR.out]; cases t5 <;> rfl)
      clear ha hb9 HR
      go_wp2_with fail
      go_ret
      exact ⟨by rw [HE.out]; rfl, HB9.out⟩
    · have HE := Lib.hid (show r = false by rw [← HR.out]; rfl)
      clear HR
      go_wp2_with fail
      go_ret
      exact ⟨by rw [HE.out]; rfl, HB3.out⟩
  · obtain ⟨t5, ht5⟩ : ∃ t, namesOk fs = t := ⟨_, rfl⟩
    have ha := HA.out w2 HB2.out
    rw [ht5] at ha HR
    clear ht5
    go_wp2_with fail
    refine ha.mono ?_
    rintro e w9 ⟨rfl, hb9⟩
    have HB9 := Lib.hid (HB2.out.trans (hb9.mono HB2.out.size))
    have HE := Lib.hid (show r = t5 by rw [← HR.out]; cases t5 <;> rfl)
    clear ha hb9 HR
    go_wp2_with fail
    go_ret
    exact ⟨by rw [HE.out]; rfl, HB9.out⟩
end Go.Proofs.YtmdkneollidkfaaGreatDoor.Fl

/-
  The program's reader gives up; names and keywords that are asked for.
-/
namespace Go.Proofs.YtmdkneollidkfaaGreatDoor.Fl
open Go.RowKit

/-- what reading gives up with -/
def faultK (n : Int) (at_ : Int) : List PanicEntry := [{ v := .iface 96 (.agg #[.int .i64 n, .int .i64 at_]), recovered := false }]
theorem giveUpK_any (p : Value) (n at_ : Int) (w : World) :
    Calls Tryz.prog 84 #[p, .int .i64 n, .int .i64 at_] w fun e w' => e = .panicked (faultK n at_) ∧ w = w' := by
  go_enter Tryz.func84, Tryz.ntmps84
  go_wp2_with fail
  exact ⟨rfl, rfl, rfl⟩
theorem nameK_result {W : World} {C : Nat} {v0 v1 v2 v3 : Value} {a : Array Value} (h : W.heap[C]? = some (.cells #[v0, v1, v2, v3] 143 (0, 0))) (h2 : a[2]?.getD undef = .pointer (some ⟨C, 0, none⟩)) :
    (results Tryz.f87 a).run Tryz.prog W = .ok (.agg #[v0, v1, v2, v3]) W := by
  obtain ⟨c0, c1, c2, c3, _⟩ := cells4L h
  simp [results, Tryz.results87, go_sem, h2, c0, c1, c2, c3]
theorem nameK_any (s : ByteArray) (w : World) :
    Calls Tryz.prog 87 #[.string s] w fun e w' => e = .returned (.agg #[.int .i64 1, .string s, .int .i64 0, .int .i64 0]) ∧ Below w.heap.size w w' := by
  have hw0 := heap_alloc_new w (.cells #[.int .i64 0, .string ⟨#[]⟩, .int .i64 0, .int .i64 0] 143)
  have hb0 : Below w.heap.size w (w.alloc (.cells #[.int .i64 0, .string ⟨#[]⟩, .int .i64 0, .int .i64 0] 143)) := (Below.refl _ _).alloc (Nat.le_refl _) _
  go_enter Tryz.func87, Tryz.ntmps87
  go_upto_region 1 with fail
  have HB1 := Lib.hid hb0
  generalize w.alloc (.cells #[.int .i64 0, .string ⟨#[]⟩, .int .i64 0, .int .i64 0] 143) = w1 at *
  obtain ⟨R, hR⟩ : ∃ R, w.heap.size = R := ⟨_, rfl⟩
  have HRR := Lib.hid (Nat.le_of_eq hR)
  rw [hR] at hw0
  simp only [hR]
  clear hR
  have HW1 := Lib.hid hw0
  clear hw0 hb0
  have f := cells4L HW1.out
  have l := lt_of_blk HW1.out
  go_wp2_with fail
  have g1 := set4 HW1.out (.int .i64 1) (.string s) (.int .i64 0) (.int .i64 0)
  refine bodyPost_ret (v := .agg #[.int .i64 1, .string s, .int .i64 0, .int .i64 0]) (nameK_result g1 rfl) rfl ?_
  exact ⟨rfl, (((HB1.out.setCell (p := ⟨R, 0, none⟩) HRR.out _).setCell (p := ⟨R, 1, none⟩) HRR.out _).setCell (p := ⟨R, 2, none⟩) HRR.out _).setCell (p := ⟨R, 3, none⟩) HRR.out _⟩
theorem keywordK_result {W : World} {C : Nat} {v0 v1 v2 v3 : Value} {a : Array Value} (h : W.heap[C]? = some (.cells #[v0, v1, v2, v3] 143 (0, 0))) (h2 : a[2]?.getD undef = .pointer (some ⟨C, 0, none⟩)) :
    (results Tryz.f88 a).run Tryz.prog W = .ok (.agg #[v0, v1, v2, v3]) W := by
  obtain ⟨c0, c1, c2, c3, _⟩ := cells4L h
  simp [results, Tryz.results88, go_sem, h2, c0, c1, c2, c3]
theorem keywordK_any (s : ByteArray) (w : World) :
    Calls Tryz.prog 88 #[.string s] w fun e w' => e = .returned (.agg #[.int .i64 2, .string s, .int .i64 0, .int .i64 0]) ∧ Below w.heap.size w w' := by
  have hw0 := heap_alloc_new w (.cells #[.int .i64 0, .string ⟨#[]⟩, .int .i64 0, .int .i64 0] 143)
  have hb0 : Below w.heap.size w (w.alloc (.cells #[.int .i64 0, .string ⟨#[]⟩, .int .i64 0, .int .i64 0] 143)) := (Below.refl _ _).alloc (Nat.le_refl _) _
  go_enter Tryz.func88, Tryz.ntmps88
  go_upto_region 1 with fail
  have HB1 := Lib.hid hb0
  generalize w.alloc (.cells #[.int .i64 0, .string ⟨#[]⟩, .int .i64 0, .int .i64 0] 143) = w1 at *
  obtain ⟨R, hR⟩ : ∃ R, w.heap.size = R := ⟨_, rfl⟩
  have HRR := Lib.hid (Nat.le_of_eq hR)
  rw [hR] at hw0
  simp only [hR]
  clear hR
  have HW1 := Lib.hid hw0
  clear hw0 hb0
  have f := cells4L HW1.out
  have l := lt_of_blk HW1.out
  go_wp2_with fail
  have g1 := set4 HW1.out (.int .i64 2) (.string s) (.int .i64 0) (.int .i64 0)
  refine bodyPost_ret (v := .agg #[.int .i64 2, .string s, .int .i64 0, .int .i64 0]) (keywordK_result g1 rfl) rfl ?_
  exact ⟨rfl, (((HB1.out.setCell (p := ⟨R, 0, none⟩) HRR.out _).setCell (p := ⟨R, 1, none⟩) HRR.out _).setCell (p := ⟨R, 2, none⟩) HRR.out _).setCell (p := ⟨R, 3, none⟩) HRR.out _⟩
end Go.Proofs.YtmdkneollidkfaaGreatDoor.Fl

/-
  The program's fits.
-/
namespace Go.Proofs.YtmdkneollidkfaaGreatDoor.Fl
open Go.RowKit

def fit1 (x y : Tok) : Bool := x.1 == y.1 && (y.2.1 == [] || x.2.1 == y.2.1)
def fitL : List Tok → List Tok → Bool
  | _, [] => true
  | [], _ :: _ => false
  | x :: xs, y :: ys => fit1 x y && fitL xs ys
def fitsR (xs ys : List Tok) : Bool := xs.length == ys.length + 1 && fitL xs ys
set_option maxRecDepth 100000 in
set_option maxHeartbeats 4000000 in
theorem fits_any (xs ys : List Tok) (A A' : Option Addr) (c c' B B' : Nat) (w : World) (hr : Rd w B A (ct xs)) (hr' : Rd w B' A' (ct ys)) (hB : B ≤ w.heap.size) (hB' : B' ≤ w.heap.size) (hc : xs.length ≤ c) (hc' : ys.length ≤ c') (hl : ys.length ≤ 100000000) :
    Calls Tryz.prog 86 #[.slice A xs.length c, .slice A' ys.length c'] w fun e w' => e = .returned (.bool (fitsR xs ys)) ∧ Below w.heap.size w w' := by
  obtain ⟨r, hR0⟩ : ∃ r, fitsR xs ys = r := ⟨_, rfl⟩
  rw [hR0]
  have HR := Lib.hid hR0
  unfold fitsR at HR
  clear hR0
  have HRx := Lib.hid hr
  have HRy := Lib.hid hr'
  clear hr hr'
  go_enter Tryz.func86, Tryz.ntmps86
  have hw1 : IntKind.i64.wrap ((ys.length : Int) + 1) = (ys.length : Int) + 1 := by rw [IntKind.wrap_i64]; omega
  by_cases hlen : xs.length = ys.length + 1
  case neg =>
    have hq : ((xs.length : Int) != (ys.length : Int) + 1) = true := by rw [bne_iff_ne]; omega
    have HE := Lib.hid (show r = false by rw [← HR.out]; simp [hlen])
    clear HR hlen
    go_wp2_with fail
    go_ret
    exact ⟨by rw [HE.out]; rfl, Below.refl _ _⟩
  have hq : ((xs.length : Int) != (ys.length : Int) + 1) = false := by rw [bne_eq_false_iff_eq]; omega
  have HF := Lib.hid (show fitL (xs.drop 0) (ys.drop 0) = r by rw [List.drop_zero, List.drop_zero, ← HR.out]; simp [hlen])
  have HL := Lib.hid hlen
  clear HR hlen
  go_wp2_with fail
  go_loopw [15] (fun v wr => ∃ i : Nat, i ≤ ys.length ∧ v = .int .i64 (i : Int) ∧ Hid (fitL (xs.drop i) (ys.drop i) = r) ∧ Hid (Below w.heap.size w wr)) (fun v _ => ys.length - (intOf v).toNat)
  case atStart => exact ⟨0, Nat.zero_le _, rfl, HF, Lib.hid (Below.refl _ _)⟩
  case round =>
    clear HF
    obtain ⟨i, hi, rfl, HF, HB⟩ := hrel
    by_cases hlt : i < ys.length
    case neg =>
      have e : i = ys.length := by omega
      have hq2 : ¬ ((i : Int) < (ys.length : Int)) := by omega
      have HE := Lib.hid (show r = true by have := HF.out; rw [← this, List.drop_of_length_le (l := ys) (by omega)]; cases List.drop i xs <;> rfl)
      clear e HF
      go_wp2_with fail
      go_ret
      exact ⟨by rw [HE.out]; rfl, HB.out⟩
    have hq2 : (i : Int) < (ys.length : Int) := by omega
    have hltx : i < xs.length := by have := HL.out; omega
    have HF2 := HF.out
    rw [List.drop_eq_getElem_cons hltx, List.drop_eq_getElem_cons hlt, fitL] at HF2
    obtain ⟨⟨kx, wx, nx, qx⟩, hx⟩ : ∃ x, xs[i] = x := ⟨_, rfl⟩
    obtain ⟨⟨ky, wy, ny, qy⟩, hy⟩ : ∃ y, ys[i] = y := ⟨_, rfl⟩
    rw [hx, hy] at HF2
    obtain ⟨b, o, rfl, hb, x0, x1, x2, x3⟩ := rdK_at (HRx.out.below HB.out hB) hltx hx
    obtain ⟨b', o', rfl, hb', y0, y1, y2, y3⟩ := rdK_at (HRy.out.below HB.out hB') hlt hy
    have HF3 := Lib.hid HF2
    unfold fit1 at HF3
    dsimp only at HF3
    clear HF2 HF hx hy
    have hbw : b < wr.heap.size := by have := HB.out.size; omega
    have hxl : (i : Int) < (xs.length : Int) := by omega
    go_upto_region 6 with fail
    have hw2 := heap_alloc_new wr (.cells #[.int .i64 (ky : Int), .string ⟨wy.toArray⟩, .int .i64 ny, .int .i64 (qy : Int)] 143)
    have hb2 : Below wr.heap.size wr (wr.alloc (.cells #[.int .i64 (ky : Int), .string ⟨wy.toArray⟩, .int .i64 ny, .int .i64 (qy : Int)] 143)) := (Below.refl _ _).alloc (Nat.le_refl _) _
    generalize wr.alloc (.cells #[.int .i64 (ky : Int), .string ⟨wy.toArray⟩, .int .i64 ny, .int .i64 (qy : Int)] 143) = w2 at *
    have HB2 := Lib.hid (HB.out.trans (hb2.mono HB.out.size))
    obtain ⟨T, hT⟩ : ∃ T, wr.heap.size = T := ⟨_, rfl⟩
    rw [hT] at hw2
    simp only [hT]
    have z0 := (hb2.cell (p := ⟨b, _, none⟩) hbw).trans x0
    have z1 := (hb2.cell (p := ⟨b, _, none⟩) hbw).trans x1
    have f := cells4L hw2
    have l := lt_of_blk hw2
    have hbw2 : b < w2.heap.size := Nat.lt_of_lt_of_le hbw hb2.size
    clear x0 x1 x2 x3 y0 y1 y2 y3 hb2 hw2 hT HB hbw hb hb'
    have HB3 : ∀ n, Hid (Below w.heap.size w (w2.drewN n)) := fun n => Lib.hid (HB2.out.trans ⟨rfl, rfl, rfl, Nat.le_refl _, fun _ _ => rfl⟩)
    by_cases hk : kx = ky
    case neg =>
      have hkb : ((kx : Int) != (ky : Int)) = true := by rw [bne_iff_ne]; omega
      have hkn : (kx == ky) = false := by rw [beq_eq_false_iff_ne]; exact hk
      have HE := Lib.hid (show r = false by rw [← HF3.out, hkn]; rfl)
      clear HF3 hk hkn
      go_quiet (fail)
      go_wp2_with fail
      go_ret
      exact ⟨by rw [HE.out]; rfl, (HB3 _).out⟩
    have hkb : ((kx : Int) != (ky : Int)) = false := by rw [bne_eq_false_iff_eq]; omega
    have hkn : (kx == ky) = true := by rw [beq_iff_eq]; exact hk
    rw [hkn] at HF3
    clear hk hkn
    obtain ⟨t1, ht1⟩ : ∃ t, (wy == []) = t := ⟨_, rfl⟩
    rw [ht1] at HF3
    cases t1
    · obtain ⟨t2, ht2⟩ : ∃ t, (wx == wy) = t := ⟨_, rfl⟩
      rw [ht2] at HF3
      cases t2
      · have HE := Lib.hid (show r = false by rw [← HF3.out]; rfl)
        clear HF3
        go_quiet (fail)
        go_wp2_with fail
        go_ret
        exact ⟨by rw [HE.out]; rfl, (HB3 _).out⟩
      · have HF4 := Lib.hid (show fitL (xs.drop (i + 1)) (ys.drop (i + 1)) = r by rw [← HF3.out]; rfl)
        clear HF3
        go_quiet (fail)
        go_wp2_with fail
        go_roundw
        case rel => exact ⟨i + 1, by omega, rfl, HF4, HB3 _⟩
        case measure => simp [intOf]; omega
    · have HF4 := Lib.hid (show fitL (xs.drop (i + 1)) (ys.drop (i + 1)) = r by rw [← HF3.out]; rfl)
      clear HF3
      go_quiet (fail)
      go_wp2_with fail
      go_roundw
      case rel => exact ⟨i + 1, by omega, rfl, HF4, HB3 _⟩
      case measure => simp [intOf]; omega
end Go.Proofs.YtmdkneollidkfaaGreatDoor.Fl
