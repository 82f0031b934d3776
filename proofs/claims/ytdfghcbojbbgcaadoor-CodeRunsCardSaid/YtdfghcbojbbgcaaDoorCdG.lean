/-
  Instructions: Decode.
-/
import Derived.Test.YtdfghcbojbbgcaaDoorCdF
import Derived.Deep.RegionWith
import Derived.Deep.RegionHeld3
namespace Go.Proofs.YtdfghcbojbbgcaaDoor.Fl
open Go.RowKit

/-- what stands in memory beside one block has not changed -/
structure OvC (R : Nat) (w w' : World) : Prop where
  os : w'.os = w.os
  tape : w'.tape = w.tape
  output : w'.output = w.output
  size : w.heap.size ≤ w'.heap.size
  block : ∀ k, k < w.heap.size → k ≠ R → w'.heap[k]? = w.heap[k]?
theorem OvC.refl (R : Nat) (w : World) : OvC R w w := ⟨rfl, rfl, rfl, Nat.le_refl _, fun _ _ _ => rfl⟩
theorem OvC.trans {R : Nat} {w w1 w2 : World} (h : OvC R w w1) (k : OvC R w1 w2) : OvC R w w2 :=
  ⟨k.os.trans h.os, k.tape.trans h.tape, k.output.trans h.output, Nat.le_trans h.size k.size, fun j hj hn => (k.block j (Nat.lt_of_lt_of_le hj h.size) hn).trans (h.block j hj hn)⟩
theorem OvC.of_below {R : Nat} {w w' : World} (h : Below w.heap.size w w') : OvC R w w' := ⟨h.os, h.tape, h.output, h.size, fun k hk _ => h.block k hk⟩
theorem OvC.set {R : Nat} (w : World) (k : Nat) (v : Value) : OvC R w (w.setCell ⟨R, k, none⟩ v) :=
  ⟨rfl, rfl, rfl, Nat.le_of_eq (by simp [World.setCell]), fun j _ hn => Below.heap_setCell _ _ _ _ hn⟩
theorem OvC.below {R B : Nat} {w w' : World} (h : OvC R w w') (hB : B ≤ w.heap.size) (hR : B ≤ R) : Below B w w' :=
  ⟨h.os, h.tape, h.output, h.size, fun k hk => h.block k (by omega) (by omega)⟩
theorem OvC.drew {R : Nat} {w w' : World} (h : OvC R w w') : OvC R w w'.drew := h.trans (OvC.of_below ((Below.refl _ _).drew))
def bytesAt (b : List UInt8) (i n : Nat) : List UInt8 := (b.drop i).take n
/-- the instruction at a place, and the place behind; or the error -/
def decR (b : List UInt8) (at_ : Int) : (Ins × Nat) ⊕ Int :=
  if at_ < 0 ∨ (b.length : Int) < at_ then .inr 1
  else if (b.length : Int) = at_ then .inr 4
  else match formsL[(b.getD at_.toNat 0).toNat]? with
    | none => .inr 3
    | some r => if b.length < at_.toNat + 1 + r.2.1.toNat + r.2.2.2.1.toNat then .inr 4
      else .inl ((((b.getD at_.toNat 0).toNat : Int), getN r.2.1.toNat r.2.2.1 (bytesAt b (at_.toNat + 1) r.2.1.toNat), getN r.2.2.2.1.toNat r.2.2.2.2.1 (bytesAt b (at_.toNat + 1 + r.2.1.toNat) r.2.2.2.1.toNat)), at_.toNat + 1 + r.2.1.toNat + r.2.2.2.1.toNat)
def insV (x : Ins) : Value := .agg #[.int .i64 x.1, .int .i64 x.2.1, .int .i64 x.2.2]
def DecPost (r : (Ins × Nat) ⊕ Int) (w : World) (e : Ending) (w' : World) : Prop :=
  Below w.heap.size w w' ∧ ((∃ x p, r = .inl (x, p) ∧ e = .returned (.tuple #[insV x, .int .i64 (p : Int), .int .i64 0])) ∨ ∃ n, r = .inr n ∧ e = .returned (.tuple #[insV (0, 0, 0), .int .i64 0, .int .i64 n]))
theorem formsL_none {k : Nat} (h : 20 ≤ k) : formsL[k]? = none := List.getElem?_eq_none (by exact h)
theorem set3C {w : World} {C : Nat} {a0 a1 a2 : Value} {T : TypeId} (h : w.heap[C]? = some (.cells #[a0, a1, a2] T (0, 0))) (v0 v1 v2 : Value) :
    (((w.setCell ⟨C, 0, none⟩ v0).setCell ⟨C, 1, none⟩ v1).setCell ⟨C, 2, none⟩ v2).heap[C]? = some (.cells #[v0, v1, v2] T (0, 0)) :=
  heap_setCell_same _ C 2 _ _ v2 (heap_setCell_same _ C 1 _ _ v1 (heap_setCell_same w C 0 _ _ v0 h))
theorem below3C {w0 w : World} {C : Nat} (h : Below w0.heap.size w0 w) (hC : w0.heap.size ≤ C) (v0 v1 v2 : Value) :
    Below w0.heap.size w0 (((w.setCell ⟨C, 0, none⟩ v0).setCell ⟨C, 1, none⟩ v1).setCell ⟨C, 2, none⟩ v2) :=
  ((h.setCell (p := ⟨C, 0, none⟩) hC _).setCell (p := ⟨C, 1, none⟩) hC _).setCell (p := ⟨C, 2, none⟩) hC _
theorem dec_result {W : World} {C : Nat} {v0 v1 v2 u v : Value} {a : Array Value} (h : W.heap[C]? = some (.cells #[v0, v1, v2] 34 (0, 0))) (h4 : a[4]?.getD undef = .pointer (some ⟨C, 0, none⟩)) (h5 : a[5]?.getD undef = u) (h6 : a[6]?.getD undef = v) :
    (results Tryd.f6 a).run Tryd.prog W = .ok (.tuple #[.agg #[v0, v1, v2], u, v]) W := by
  obtain ⟨c0, c1, c2, _⟩ := three_cellsC h
  simp [results, Tryd.results6, go_sem, h4, h5, h6, c0, c1, c2]
set_option maxRecDepth 100000 in
set_option maxHeartbeats 4000000 in
theorem decode_any (b : List UInt8) (at_ : Int) (A : Option Addr) (c B : Nat) (w : World) (hr : Rd w B A (cb b)) (hB : B ≤ w.heap.size) (hc : b.length ≤ c) (hl : b.length ≤ 1000000) (hF : FormsAt w) :
    Calls Tryd.prog 6 #[.slice A b.length c, .int .i64 at_] w (DecPost (decR b at_) w) := by
  have hb0 : Below w.heap.size w (w.alloc (.cells #[.int .i64 0, .int .i64 0, .int .i64 0] 34)) := (Below.refl _ _).alloc (Nat.le_refl _) _
  have hw0 := heap_alloc_new w (.cells #[.int .i64 0, .int .i64 0, .int .i64 0] 34)
  have f0 := three_cellsC hw0
  have l0 : w.heap.size < (w.alloc (.cells #[.int .i64 0, .int .i64 0, .int .i64 0] 34)).heap.size := lt_of_blkC hw0
  have HB0 := Lib.hid hb0
  have HR0 := Lib.hid ((hr.below hb0 hB).more (Nat.le_trans hB hb0.size))
  have HF0 := Lib.hid (hF.below hb0)
  obtain ⟨r, hrr⟩ : ∃ r, decR b at_ = r := ⟨_, rfl⟩
  rw [hrr]
  have HD := Lib.hid hrr
  unfold decR at HD
  clear hr hF hb0 hrr
  go_enter Tryd.func6, Tryd.ntmps6
  go_upto_region 1 with fail
  generalize w.alloc (.cells #[.int .i64 0, .int .i64 0, .int .i64 0] 34) = w0 at *
  by_cases h1 : at_ < 0
  · have HD1 := Lib.hid (HD.out.symm.trans (if_pos (.inl h1)))
    go_wp2_with fail
    exact bodyPost_ret (dec_result (set3C hw0 (.int .i64 0) (.int .i64 0) (.int .i64 0)) rfl rfl rfl) rfl ⟨below3C HB0.out (Nat.le_refl _) _ _ _, .inr ⟨1, HD1.out, rfl⟩⟩
  obtain ⟨n, rfl⟩ : ∃ n : Nat, at_ = (n : Int) := ⟨at_.toNat, by omega⟩
  by_cases h2 : b.length < n
  · have HD1 := Lib.hid (HD.out.symm.trans (if_pos (.inr (by omega))))
    go_wp2_with fail
    exact bodyPost_ret (dec_result (set3C hw0 (.int .i64 0) (.int .i64 0) (.int .i64 0)) rfl rfl rfl) rfl ⟨below3C HB0.out (Nat.le_refl _) _ _ _, .inr ⟨1, HD1.out, rfl⟩⟩
  have HD1 := Lib.hid (HD.out.symm.trans (if_neg (fun h => by rcases h with h | h <;> omega)))
  clear HD
  by_cases h3 : b.length = n
  · have HD2 := Lib.hid (HD1.out.trans (if_pos (by omega)))
    clear HD1
    go_wp2_with fail
    exact bodyPost_ret (dec_result (set3C hw0 (.int .i64 0) (.int .i64 0) (.int .i64 0)) rfl rfl rfl) rfl ⟨below3C HB0.out (Nat.le_refl _) _ _ _, .inr ⟨4, HD2.out, rfl⟩⟩
  have hn : n < b.length := by omega
  have HD2 := Lib.hid (HD1.out.trans (if_neg (by omega)))
  obtain ⟨g, o, rfl, hg, c0⟩ := cbC_at HR0.out hn
  obtain ⟨ch, hch⟩ : ∃ ch, b[n] = ch := ⟨_, rfl⟩
  rw [hch] at c0
  have hgd : b.getD n 0 = ch := by rw [List.getD, List.getElem?_eq_getElem hn, hch]; rfl
  have HD3 := HD2.out
  rw [Int.toNat_natCast, hgd] at HD3
  have h8 : ch.toNat < 256 := ch.toNat_lt
  have e1 : ¬ ((n : Int) < 0) := by omega
  have e2 : ¬ ((b.length : Int) < (n : Int)) := by omega
  have e3 : ((n : Int) == (b.length : Int)) = false := by rw [beq_eq_false_iff_ne]; omega
  clear HD1 HD2 hch hgd h1 h2 h3
  generalize ch.toNat = kk at *
  by_cases h20 : 20 ≤ kk
  · have HD4 : Hid (r = .inr 3) := Lib.hid (by rw [HD3, formsL_none h20])
    clear HD3
    go_wp2_with fail
    exact bodyPost_ret (dec_result (set3C hw0 (.int .i64 0) (.int .i64 0) (.int .i64 0)) rfl rfl rfl) rfl ⟨below3C HB0.out (Nat.le_refl _) _ _ _, .inr ⟨3, HD4.out, rfl⟩⟩
  have hkk : kk < 20 := by omega
  obtain ⟨nmx, sa, la, sb, lb, t, u, hrow, ⟨hsa, hsb⟩, ⟨hla, hla0⟩, rfl⟩ := formsL_get hkk
  rw [hrow] at HD3
  simp only [Int.toNat_natCast] at HD3
  obtain ⟨g0, g1, g2, g3, g4, g5, g6⟩ := HF0.out.row hrow
  have hgl := HF0.out.lt
  clear h20 hrow
  -- the boxes
  have hb1 : Below w0.heap.size w0 (w0.alloc (.cells #[.int .i64 (kk : Int), .int .i64 0, .int .i64 0] 34)) := (Below.refl _ _).alloc (Nat.le_refl _) _
  have hw1i := heap_alloc_new w0 (.cells #[.int .i64 (kk : Int), .int .i64 0, .int .i64 0] 34)
  have f1 := three_cellsC hw1i
  have l1 : w0.heap.size < (w0.alloc (.cells #[.int .i64 (kk : Int), .int .i64 0, .int .i64 0] 34)).heap.size := lt_of_blkC hw1i
  have hgk : ∀ j, (w0.alloc (.cells #[.int .i64 (kk : Int), .int .i64 0, .int .i64 0] 34)).cell? ⟨0, j, none⟩ = w0.cell? ⟨0, j, none⟩ := fun j => World.cell?_of_block (a := ⟨0, j, none⟩) (hb1.block _ hgl)
  have k0 := (hgk (kk * 7)).trans g0
  have k1 := (hgk (kk * 7 + 1)).trans g1
  have k2 := (hgk (kk * 7 + 2)).trans g2
  have k3 := (hgk (kk * 7 + 3)).trans g3
  have k4 := (hgk (kk * 7 + 4)).trans g4
  have k5 := (hgk (kk * 7 + 5)).trans g5
  have k6 := (hgk (kk * 7 + 6)).trans g6
  have hgl1 := Nat.lt_of_lt_of_le hgl hb1.size
  have HB1 := Lib.hid (HB0.out.trans (hb1.mono HB0.out.size))
  have HR1 := Lib.hid (HR0.out.below hb1 (Nat.le_refl _))
  have hw1r := (hb1.block _ l0).trans hw0
  clear hgk g0 g1 g2 g3 g4 g5 g6
  have HD4 := Lib.hid HD3
  clear HD3 HF0 HR0 f0
  go_upto_region 9 with fail
  have hb2 : Below (w0.alloc (.cells #[.int .i64 (kk : Int), .int .i64 0, .int .i64 0] 34)).heap.size (w0.alloc (.cells #[.int .i64 (kk : Int), .int .i64 0, .int .i64 0] 34)) ((w0.alloc (.cells #[.int .i64 (kk : Int), .int .i64 0, .int .i64 0] 34)).alloc (.cells #[.string ⟨nmx.toArray⟩, .int .i64 (sa : Int), .int .i64 la, .int .i64 (sb : Int), .int .i64 0, .int .i64 t, .int .i64 u] 52)) := (Below.refl _ _).alloc (Nat.le_refl _) _
  have hw2f := heap_alloc_new (w0.alloc (.cells #[.int .i64 (kk : Int), .int .i64 0, .int .i64 0] 34)) (.cells #[.string ⟨nmx.toArray⟩, .int .i64 (sa : Int), .int .i64 la, .int .i64 (sb : Int), .int .i64 0, .int .i64 t, .int .i64 u] 52)
  rw [World.size_alloc] at hw2f
  have hw2i := (hb2.block _ l1).trans hw1i
  have hw2r := (hb2.block _ (Nat.lt_of_lt_of_le l0 hb1.size)).trans hw1r
  have HB2 := Lib.hid (HB1.out.trans (hb2.mono HB1.out.size))
  have HR2 := Lib.hid (show Rd _ w0.heap.size _ _ from HR1.out.below hb2 (by rw [World.size_alloc]; omega))
  clear hb1 hb2 hw1i hw1r f1 k0 k1 k2 k3 k4 k5 k6 hgl1 HB1 HR1
  generalize hw2 : (w0.alloc (.cells #[.int .i64 (kk : Int), .int .i64 0, .int .i64 0] 34)).alloc (.cells #[.string ⟨nmx.toArray⟩, .int .i64 (sa : Int), .int .i64 la, .int .i64 (sb : Int), .int .i64 0, .int .i64 t, .int .i64 u] 52) = w2 at *
  have HI : Hid (w.heap.size < w0.heap.size) := Lib.hid l0
  have hgI := hg
  clear hw2 l1 hw0 HB0 hgl c0 h8
  have l2f := lt_of_blkC hw2f
  have l2i := lt_of_blkC hw2i
  have l2r := lt_of_blkC hw2r
  generalize hI : w0.heap.size = I at *
  clear hI
  have f2 := seven_cellsC hw2f
  have f2i := three_cellsC hw2i
  have f2r := three_cellsC hw2r
  by_cases h5 : b.length < n + 1 + sa + sb
  · have HD5 : Hid (r = .inr 4) := Lib.hid (by rw [HD4.out, if_pos h5])
    have e5 : (b.length : Int) < (n : Int) + 1 + (sa : Int) + (sb : Int) := by omega
    clear HD4 h5
    go_wp2_with fail
    exact bodyPost_ret (dec_result (set3C hw2r (.int .i64 0) (.int .i64 0) (.int .i64 0)) rfl rfl rfl) rfl ⟨below3C HB2.out (Nat.le_refl _) _ _ _, .inr ⟨4, HD5.out, rfl⟩⟩
  · have HD5 := Lib.hid (HD4.out.trans (if_neg h5))
    have e5 : ¬ ((b.length : Int) < (n : Int) + 1 + (sa : Int) + (sb : Int)) := by omega
    clear HD4
    have hla2 : (bytesAt b (n + 1) sa).length = sa := by unfold bytesAt; rw [List.length_take, List.length_drop]; omega
    have hlb2 : (bytesAt b (n + 1 + sa) sb).length = sb := by unfold bytesAt; rw [List.length_take, List.length_drop]; omega
    have hRd : ∀ w', OvC I w2 w' → ∀ k m, Rd w' I (some ⟨g, o + k, none⟩) (cb (bytesAt b k m)) := fun w' ho k m => by
      have h9 : Rd w' I (some ⟨g, o, none⟩) (cb b) := HR2.out.keep (fun x y hx => World.cell?_of_block (a := ⟨x, y, none⟩) (ho.block x (by omega) (by omega)))
      have h10 := (h9.drop_ k).take_ m
      unfold bytesAt
      rwa [show cb ((b.drop k).take m) = ((cb b).drop k).take m by simp [cb, List.map_drop, List.map_take]]
    obtain ⟨va, hva⟩ : ∃ va, getN sa la (bytesAt b (n + 1) sa) = va := ⟨_, rfl⟩
    obtain ⟨vb, hvb⟩ : ∃ vb, getN sb 0 (bytesAt b (n + 1 + sa) sb) = vb := ⟨_, rfl⟩
    have HGa : Hid (∀ w' A c, OvC I w2 w' → (sa = 0 ∨ A = some ⟨g, o + (n + 1), none⟩) → sa ≤ c → Calls Tryd.prog 12 #[.agg #[.int .i64 (sa : Int), .int .i64 la], .slice A sa c] w' fun e w'' => e = .returned (.int .i64 va) ∧ Below w'.heap.size w' w'') := Lib.hid (fun w' A c ho hA hc => by
      rw [← hva]
      refine getC_any sa hsa la hla hla0 (bytesAt b (n + 1) sa) hla2 A c I w' ?_ (by have := ho.size; omega) hc
      rcases hA with h | h
      · exact .inl (by rw [show bytesAt b (n + 1) sa = [] from List.eq_nil_of_length_eq_zero (by omega)]; rfl)
      · rw [h]; exact hRd w' ho _ _)
    have HGb : Hid (∀ w' A c, OvC I w2 w' → (sb = 0 ∨ A = some ⟨g, o + (n + 1 + sa), none⟩) → sb ≤ c → Calls Tryd.prog 12 #[.agg #[.int .i64 (sb : Int), .int .i64 0], .slice A sb c] w' fun e w'' => e = .returned (.int .i64 vb) ∧ Below w'.heap.size w' w'') := Lib.hid (fun w' A c ho hA hc => by
      rw [← hvb]
      refine getC_any sb hsb 0 (by decide) (by decide) (bytesAt b (n + 1 + sa) sb) hlb2 A c I w' ?_ (by have := ho.size; omega) hc
      rcases hA with h | h
      · exact .inl (by rw [show bytesAt b (n + 1 + sa) sb = [] from List.eq_nil_of_length_eq_zero (by omega)]; rfl)
      · rw [h]; exact hRd w' ho _ _)
    have HD6 : Hid (r = .inl (((kk : Int), va, vb), n + 1 + sa + sb)) := Lib.hid (by rw [HD5.out, ← hva, ← hvb])
    have hSx : ∀ w', OvC I w2 w' → (w'.cell? ⟨I + 1, 1, none⟩ = some (.int .i64 (sa : Int)) ∧ w'.cell? ⟨I + 1, 2, none⟩ = some (.int .i64 la) ∧ w'.cell? ⟨I + 1, 3, none⟩ = some (.int .i64 (sb : Int)) ∧ w'.cell? ⟨I + 1, 4, none⟩ = some (.int .i64 0)) := fun w' ho => by
      have hk : ∀ j, w'.cell? ⟨I + 1, j, none⟩ = w2.cell? ⟨I + 1, j, none⟩ := fun j => World.cell?_of_block (a := ⟨I + 1, j, none⟩) (ho.block (I + 1) l2f (by omega))
      exact ⟨(hk 1).trans f2.2.1, (hk 2).trans f2.2.2.1, (hk 3).trans f2.2.2.2.1, (hk 4).trans f2.2.2.2.2.1⟩
    have HSx := Lib.hid hSx
    have HL := Lib.hid (And.intro l2f (And.intro l2i l2r))
    have i1 : (n : Int) + 1 ≤ (n : Int) + 1 + (sa : Int) := by omega
    have i2 : (n : Int) + 1 + (sa : Int) ≤ (c : Int) := by omega
    have i3 : (n : Int) + 1 + (sa : Int) ≤ (n : Int) + 1 + (sa : Int) + (sb : Int) := by omega
    have i4 : (n : Int) + 1 + (sa : Int) + (sb : Int) ≤ (c : Int) := by omega
    have i5 : (0 : Int) ≤ (n : Int) + 1 := by omega
    have i6 : (0 : Int) ≤ (n : Int) + 1 + (sa : Int) := by omega
    have i7 : (0 : Int) ≤ (n : Int) + 1 + (sa : Int) + (sb : Int) := by omega
    have i8 : (n : Int) + 1 + (sa : Int) ≤ max ((n : Int) + 1 + (sa : Int) + (sb : Int)) 0 := by omega
    have HT1 : Hid (((n : Int) + 1 + (sa : Int)).toNat = n + 1 + sa ∧ ((n : Int) + 1 + (sa : Int) + (sb : Int)).toNat = n + 1 + sa + sb ∧ ((n : Int) + 1).toNat = n + 1) := Lib.hid ⟨by omega, by omega, by omega⟩
    clear hRd hva hvb hla2 hlb2 HD5 HR2 hSx
    go_upto_region 14 with fail
    have hcs : n + 1 + sa + sb ≤ c := by omega
    obtain ⟨A1, hA1⟩ : ∃ A1, (if c = n + 1 then some (⟨g, o, none⟩ : Addr) else some ⟨g, o + (n + 1), none⟩) = A1 := ⟨_, rfl⟩
    obtain ⟨A2, hA2⟩ : ∃ A2, (if c = n + 1 + sa then some (⟨g, o, none⟩ : Addr) else some ⟨g, o + (n + 1 + sa), none⟩) = A2 := ⟨_, rfl⟩
    have hq1 : sa = 0 ∨ A1 = some ⟨g, o + (n + 1), none⟩ := by
      by_cases hcn : c = n + 1
      · exact .inl (by omega)
      · rw [if_neg hcn] at hA1; exact .inr hA1.symm
    have hq2 : sb = 0 ∨ A2 = some ⟨g, o + (n + 1 + sa), none⟩ := by
      by_cases hcn : c = n + 1 + sa
      · exact .inl (by omega)
      · rw [if_neg hcn] at hA2; exact .inr hA2.symm
    have HQ := Lib.hid (And.intro hq1 hq2)
    have HCs := Lib.hid hcs
    clear hq1 hq2 hcs
    obtain ⟨hT1, hT2, -⟩ := HT1.out
    rename_i hKo
    have HKo := Lib.hid hKo
    clear hKo
    refine wp_region_noPanic ?_
    refine wp_region_held_drew (S := (fun w' : World => w'.cell? ⟨I + 1, 1, none⟩ = some (.int .i64 (sa : Int)) ∧ w'.cell? ⟨I + 1, 2, none⟩ = some (.int .i64 la) ∧ w'.cell? ⟨I + 1, 3, none⟩ = some (.int .i64 (sb : Int)) ∧ w'.cell? ⟨I + 1, 4, none⟩ = some (.int .i64 0))) (by kernel_rfl) (HSx.out _ (OvC.refl _ _).drew) (fun hHeld => ?_)
    refine wpAnyH_take (i := 0) (v := ?_) (by first | (simp only [List.getElem?_toArray, List.getElem?_cons_succ, List.getElem?_cons_zero]; rfl) | rfl) (by kernel_rfl) (by kernel_rfl) (by kernel_rfl) (fun _ _ _ h => h) (Or.inl ⟨by rfl, ?_⟩) (by assumption) ?_
    rotate_left 1
    · (intro w' hSw; (try dsimp only at hSw); go_simp; (try with_reducible rfl))
    try simp only [Act.put, List.setIfInBounds_toArray, List.set_cons_zero, List.set_cons_succ]
    refine wpAnyH_take (i := 1) (v := ?_) (by first | (simp only [List.getElem?_toArray, List.getElem?_cons_succ, List.getElem?_cons_zero]; rfl) | rfl) (by kernel_rfl) (by kernel_rfl) (by kernel_rfl) (fun _ _ _ h => h) (Or.inl ⟨by rfl, ?_⟩) (by assumption) ?_
    rotate_left 1
    · (intro w' hSw; (try dsimp only at hSw); go_simp; (try with_reducible rfl))
    try simp only [Act.put, List.setIfInBounds_toArray, List.set_cons_zero, List.set_cons_succ]
    refine wpAnyH_take (i := 2) (v := ?_) (by first | (simp only [List.getElem?_toArray, List.getElem?_cons_succ, List.getElem?_cons_zero]; rfl) | rfl) (by kernel_rfl) (by kernel_rfl) (by kernel_rfl) (fun _ _ _ h => h) (Or.inl ⟨by rfl, ?_⟩) (by assumption) ?_
    rotate_left 1
    · (intro w' hSw; (try dsimp only at hSw); go_simp; (try with_reducible rfl))
    try simp only [Act.put, List.setIfInBounds_toArray, List.set_cons_zero, List.set_cons_succ]
    refine wpAnyH_take (i := 3) (v := ?_) (by first | (simp only [List.getElem?_toArray, List.getElem?_cons_succ, List.getElem?_cons_zero]; rfl) | rfl) (by kernel_rfl) (by kernel_rfl) (by kernel_rfl) (fun _ _ _ h => h) (Or.inl ⟨by rfl, ?_⟩) (by assumption) ?_
    rotate_left 1
    · (intro w' hSw; (try dsimp only at hSw); go_simp; (try with_reducible rfl))
    try simp only [Act.put, List.setIfInBounds_toArray, List.set_cons_zero, List.set_cons_succ]
    refine wpAnyH_take (i := 4) (v := ?_) (by first | (simp only [List.getElem?_toArray, List.getElem?_cons_succ, List.getElem?_cons_zero]; rfl) | rfl) (by kernel_rfl) (by kernel_rfl) (by kernel_rfl) (fun _ _ _ h => h) (Or.inl ⟨by rfl, ?_⟩) (by assumption) ?_
    rotate_left 1
    · (intro w' hSw; (try dsimp only at hSw); go_simp; (try with_reducible rfl))
    try simp only [Act.put, List.setIfInBounds_toArray, List.set_cons_zero, List.set_cons_succ]
    refine wpAnyH_take (i := 5) (v := ?_) (by first | (simp only [List.getElem?_toArray, List.getElem?_cons_succ, List.getElem?_cons_zero]; rfl) | rfl) (by kernel_rfl) (by kernel_rfl) (by kernel_rfl) (fun _ _ _ h => h) (Or.inl ⟨by rfl, ?_⟩) (by assumption) ?_
    rotate_left 1
    · (intro w' hSw; (try dsimp only at hSw); go_simp; (try with_reducible rfl))
    try simp only [Act.put, List.setIfInBounds_toArray, List.set_cons_zero, List.set_cons_succ]
    refine wpAnyH_take (i := 7) (v := ?_) (by first | (simp only [List.getElem?_toArray, List.getElem?_cons_succ, List.getElem?_cons_zero]; rfl) | rfl) (by kernel_rfl) (by kernel_rfl) (by kernel_rfl) (fun _ _ _ h => h) (Or.inl ⟨by rfl, ?_⟩) (by assumption) ?_
    rotate_left 1
    · (intro w' hSw; (try dsimp only at hSw); go_simp; (try with_reducible rfl))
    try simp only [Act.put, List.setIfInBounds_toArray, List.set_cons_zero, List.set_cons_succ]
    refine wpAnyH_take (i := 8) (v := ?_) (by first | (simp only [List.getElem?_toArray, List.getElem?_cons_succ, List.getElem?_cons_zero]; rfl) | rfl) (by kernel_rfl) (by kernel_rfl) (by kernel_rfl) (fun _ _ _ h => h) (Or.inl ⟨by rfl, ?_⟩) (by assumption) ?_
    rotate_left 1
    · (intro w' hSw; (try dsimp only at hSw); go_simp; (try with_reducible rfl))
    try simp only [Act.put, List.setIfInBounds_toArray, List.set_cons_zero, List.set_cons_succ]
    refine wpAnyH_take (i := 9) (v := ?_) (by first | (simp only [List.getElem?_toArray, List.getElem?_cons_succ, List.getElem?_cons_zero]; rfl) | rfl) (by kernel_rfl) (by kernel_rfl) (by kernel_rfl) (fun _ _ _ h => h) (Or.inl ⟨by rfl, ?_⟩) (by assumption) ?_
    rotate_left 1
    · (intro w' hSw; (try dsimp only at hSw); go_simp; (try with_reducible rfl))
    try simp only [Act.put, List.setIfInBounds_toArray, List.set_cons_zero, List.set_cons_succ]
    refine wpAnyH_take (i := 10) (v := ?_) (by first | (simp only [List.getElem?_toArray, List.getElem?_cons_succ, List.getElem?_cons_zero]; rfl) | rfl) (by kernel_rfl) (by kernel_rfl) (by kernel_rfl) (fun _ _ _ h => h) (Or.inl ⟨by rfl, ?_⟩) (by assumption) ?_
    rotate_left 1
    · (intro w' hSw; (try dsimp only at hSw); go_simp; (try with_reducible rfl))
    try simp only [Act.put, List.setIfInBounds_toArray, List.set_cons_zero, List.set_cons_succ]
    refine wpAnyH_take (i := 11) (v := ?_) (by first | (simp only [List.getElem?_toArray, List.getElem?_cons_succ, List.getElem?_cons_zero]; rfl) | rfl) (by kernel_rfl) (by kernel_rfl) (by kernel_rfl) (fun _ _ _ h => h) (Or.inl ⟨by rfl, ?_⟩) (by assumption) ?_
    rotate_left 1
    · (intro w' hSw; (try dsimp only at hSw); go_simp; (try with_reducible rfl))
    try simp only [Act.put, List.setIfInBounds_toArray, List.set_cons_zero, List.set_cons_succ]
    refine wpAnyH_take (i := 12) (v := ?_) (by first | (simp only [List.getElem?_toArray, List.getElem?_cons_succ, List.getElem?_cons_zero]; rfl) | rfl) (by kernel_rfl) (by kernel_rfl) (by kernel_rfl) (fun _ _ _ h => h) (Or.inl ⟨by rfl, ?_⟩) (by assumption) ?_
    rotate_left 1
    · (intro w' hSw; (try dsimp only at hSw); go_simp; (try with_reducible rfl))
    try simp only [Act.put, List.setIfInBounds_toArray, List.set_cons_zero, List.set_cons_succ]
    refine wpAnyH_ready (rs := [6]) (by kernel_rfl) (by simp) ?_
    refine AllReadyH.cons (by first | (simp only [List.getElem?_toArray, List.getElem?_cons_succ, List.getElem?_cons_zero]; rfl) | rfl) (fun K hK => ?_) AllReadyH.nil
    go_simp
    refine (HGa.out _ _ _ ((OvC.refl _ _).drew) HQ.out.1 (by have := HCs.out; omega)).mono ?_
    rintro e w3 ⟨rfl, hb3⟩
    have ho3 : OvC I w2 w3 := ((OvC.refl I w2).drew).trans (OvC.of_below hb3)
    have hw3i := (hb3.block I HL.out.2.1).trans (show w2.drew.heap[I]? = _ from hw2i)
    have l3i := Nat.lt_of_lt_of_le HL.out.2.1 (show w2.heap.size ≤ w3.heap.size from ho3.size)
    clear hb3
    dsimp only
    refine hK.out _ _ (HSx.out _ ho3) (fun hHeld => ?_)
    clear hK K
    try simp only [Act.put, List.setIfInBounds_toArray, List.set_cons_zero, List.set_cons_succ]
    refine wpAnyH_take (i := 14) (v := ?_) (by first | (simp only [List.getElem?_toArray, List.getElem?_cons_succ, List.getElem?_cons_zero]; rfl) | rfl) (by kernel_rfl) (by kernel_rfl) (by kernel_rfl) (fun _ _ _ h => h) (Or.inl ⟨by rfl, ?_⟩) (by assumption) ?_
    rotate_left 1
    · (intro w' hSw; (try dsimp only at hSw); go_simp; (try with_reducible rfl))
    try simp only [Act.put, List.setIfInBounds_toArray, List.set_cons_zero, List.set_cons_succ]
    refine wpAnyH_ready (rs := [13]) (by kernel_rfl) (by simp) ?_
    refine AllReadyH.cons (by first | (simp only [List.getElem?_toArray, List.getElem?_cons_succ, List.getElem?_cons_zero]; rfl) | rfl) (fun K hK => ?_) AllReadyH.nil
    go_simp
    refine (HGb.out _ _ _ ho3 HQ.out.2 (by have := HCs.out; omega)).mono ?_
    rintro e w4 ⟨rfl, hb4⟩
    have ho4 : OvC I w2 w4 := ho3.trans (OvC.of_below hb4)
    have hw4i := (hb4.block I l3i).trans hw3i
    have f4i := three_cellsC hw4i
    have l4i := lt_of_blkC hw4i
    clear hb4
    dsimp only
    refine hK.out _ _ (HSx.out _ ho4) (fun hHeld => ?_)
    clear hK K
    try simp only [Act.put, List.setIfInBounds_toArray, List.set_cons_zero, List.set_cons_succ]
    refine wpAnyH_ready (rs := [15]) (by kernel_rfl) (by simp) ?_
    refine AllReadyH.cons (by first | (simp only [List.getElem?_toArray, List.getElem?_cons_succ, List.getElem?_cons_zero]; rfl) | rfl) (fun K hK => ?_) AllReadyH.nil
    go_simp
    have ho5 : OvC I w2 (w4.setCell ⟨I, 1, none⟩ (.int .i64 va)) := ho4.trans (OvC.set w4 1 _)
    have hw5i := heap_setCell_same w4 I 1 _ _ (.int .i64 va) hw4i
    have f5i := three_cellsC hw5i
    have l5i := lt_of_blkC hw5i
    refine hK.out _ _ (HSx.out _ ho5) (fun hHeld => ?_)
    clear hK K
    try simp only [Act.put, List.setIfInBounds_toArray, List.set_cons_zero, List.set_cons_succ]
    refine wpAnyH_take (i := 16) (v := ?_) (by first | (simp only [List.getElem?_toArray, List.getElem?_cons_succ, List.getElem?_cons_zero]; rfl) | rfl) (by kernel_rfl) (by kernel_rfl) (by kernel_rfl) (fun _ _ _ h => h) (Or.inl ⟨by rfl, ?_⟩) (by assumption) ?_
    rotate_left 1
    · (intro w' hSw; (try dsimp only at hSw); go_simp; (try with_reducible rfl))
    try simp only [Act.put, List.setIfInBounds_toArray, List.set_cons_zero, List.set_cons_succ]
    refine wpAnyH_ready (rs := [17]) (by kernel_rfl) (by simp) ?_
    refine AllReadyH.cons (by first | (simp only [List.getElem?_toArray, List.getElem?_cons_succ, List.getElem?_cons_zero]; rfl) | rfl) (fun K hK => ?_) AllReadyH.nil
    go_simp
    have ho6 : OvC I w2 ((w4.setCell ⟨I, 1, none⟩ (.int .i64 va)).setCell ⟨I, 2, none⟩ (.int .i64 vb)) := ho5.trans (OvC.set _ 2 _)
    have hw6i := heap_setCell_same _ I 2 _ _ (.int .i64 vb) hw5i
    refine hK.out _ _ (HSx.out _ ho6) (fun hHeld => ?_)
    clear hK K
    try simp only [Act.put, List.setIfInBounds_toArray, List.set_cons_zero, List.set_cons_succ]
    refine wpAnyH_done (by kernel_rfl) ?_ _
    refine NoPanic.normal ?_
    refine HKo.out _ _ ?_
    have hw6r := (ho6.block w.heap.size HL.out.2.2 (by have := HI.out; omega)).trans hw2r
    have HB6 := Lib.hid (show Below w.heap.size w ((w4.setCell ⟨I, 1, none⟩ (.int .i64 va)).setCell ⟨I, 2, none⟩ (.int .i64 vb)) from HB2.out.trans (ho6.below (by have := HL.out.2.2; omega) (Nat.le_of_lt HI.out)))
    clear hHeld HKo ho3 ho4 ho5 ho6 hw3i hw4i hw5i f4i f5i l3i l4i l5i hA1 hA2 HGa HGb HSx HQ HCs hT1 hT2 HT1 f2 f2i f2r hw2f hw2i hw2r
    generalize (w4.setCell ⟨I, 1, none⟩ (.int .i64 va)).setCell ⟨I, 2, none⟩ (.int .i64 vb) = w6 at *
    have f6i := three_cellsC hw6i
    have f6r := three_cellsC hw6r
    have l6i := lt_of_blkC hw6i
    have l6r := lt_of_blkC hw6r
    have HW6 := Lib.hid hw6r
    go_wp2_with fail
    exact bodyPost_ret (dec_result (set3C HW6.out (.int .i64 (kk : Int)) (.int .i64 va) (.int .i64 vb)) rfl rfl rfl) rfl ⟨below3C HB6.out (Nat.le_refl _) _ _ _, .inl ⟨_, _, HD6.out, rfl⟩⟩
end Go.Proofs.YtdfghcbojbbgcaaDoor.Fl
