/-
  The document's Decode of any bytes, at any place.
-/
import Derived.Test.YtghnpmhidcfghaaDoorCeG
import Derived.Test.YtghnpmhidcfghaaDoorCdK
namespace Go.Proofs.YtghnpmhidcfghaaDoor.Fl
open Go.RowKit

theorem drewC (W : World) (k : Nat) : W.drew.heap[k]? = W.heap[k]? := rfl
theorem rdec_result {W : World} {C : Nat} {v0 v1 v2 u v : Value} {a : Array Value} (h : W.heap[C]? = some (.cells #[v0, v1, v2] 26 (0, 0))) (h4 : a[4]?.getD undef = .pointer (some ⟨C, 0, none⟩)) (h5 : a[5]?.getD undef = u) (h6 : a[6]?.getD undef = v) :
    (results Tryd.f13 a).run Tryd.prog W = .ok (.tuple #[.agg #[v0, v1, v2], u, v]) W := by
  obtain ⟨c0, c1, c2, _⟩ := three_cellsC h
  simp [results, Tryd.results13, go_sem, h4, h5, h6, c0, c1, c2]
set_option maxRecDepth 100000 in
set_option maxHeartbeats 4000000 in
theorem rdecode_any (b : List UInt8) (at_ : Int) (A : Option Addr) (c B : Nat) (w : World) (hr : Rd w B A (cb b)) (hB : B ≤ w.heap.size) (hc : b.length ≤ c) (hl : b.length ≤ 1000000) :
    Calls Tryd.prog 13 #[.slice A b.length c, .int .i64 at_] w (DecPost (decR b at_) w) := by
  have hb0 : Below w.heap.size w (w.alloc (.cells #[.int .i64 0, .int .i64 0, .int .i64 0] 26)) := (Below.refl _ _).alloc (Nat.le_refl _) _
  have hw0 := heap_alloc_new w (.cells #[.int .i64 0, .int .i64 0, .int .i64 0] 26)
  have f0 := three_cellsC hw0
  have l0 : w.heap.size < (w.alloc (.cells #[.int .i64 0, .int .i64 0, .int .i64 0] 26)).heap.size := lt_of_blkC hw0
  have HB0 := Lib.hid hb0
  have HR0 := Lib.hid ((hr.below hb0 hB).more hB)
  obtain ⟨r, hrr⟩ : ∃ r, decR b at_ = r := ⟨_, rfl⟩
  rw [hrr]
  have HD := Lib.hid hrr
  unfold decR at HD
  clear hr hb0 hrr
  go_enter Tryd.func13, Tryd.ntmps13
  go_upto_region 1 with fail
  generalize w.alloc (.cells #[.int .i64 0, .int .i64 0, .int .i64 0] 26) = w0 at *
  by_cases h1 : at_ < 0
  · have HD1 := Lib.hid (HD.out.symm.trans (if_pos (.inl h1)))
    go_wp2_with fail
    exact bodyPost_ret (rdec_result (set3C hw0 (.int .i64 0) (.int .i64 0) (.int .i64 0)) rfl rfl rfl) rfl ⟨below3C HB0.out (Nat.le_refl _) _ _ _, .inr ⟨1, HD1.out, rfl⟩⟩
  obtain ⟨n, rfl⟩ : ∃ n : Nat, at_ = (n : Int) := ⟨at_.toNat, by omega⟩
  by_cases h2 : b.length < n
  · have HD1 := Lib.hid (HD.out.symm.trans (if_pos (.inr (by omega))))
    have hg1 : (b.length : Int) < (n : Int) := by omega
    have hg0 : ¬ ((n : Int) < 0) := by omega
    clear h1 h2
    go_wp2_with fail
    exact bodyPost_ret (rdec_result (set3C hw0 (.int .i64 0) (.int .i64 0) (.int .i64 0)) rfl rfl rfl) rfl ⟨below3C HB0.out (Nat.le_refl _) _ _ _, .inr ⟨1, HD1.out, rfl⟩⟩
  have HD1 := Lib.hid (HD.out.symm.trans (if_neg (fun h => by rcases h with h | h <;> omega)))
  clear HD
  have e1 : ¬ ((n : Int) < 0) := by omega
  have e2 : ¬ ((b.length : Int) < (n : Int)) := by omega
  by_cases h3 : b.length = n
  · have HD2 := Lib.hid (HD1.out.trans (if_pos (by omega)))
    have e3 : ((n : Int) == (b.length : Int)) = true := by rw [beq_iff_eq]; omega
    clear HD1 h1 h2 h3
    go_wp2_with fail
    exact bodyPost_ret (rdec_result (set3C hw0 (.int .i64 0) (.int .i64 0) (.int .i64 0)) rfl rfl rfl) rfl ⟨below3C HB0.out (Nat.le_refl _) _ _ _, .inr ⟨4, HD2.out, rfl⟩⟩
  have hn : n < b.length := by omega
  have HD2 := Lib.hid (HD1.out.trans (if_neg (by omega)))
  obtain ⟨g, o, rfl, hg, c0⟩ := cbC_at HR0.out hn
  obtain ⟨ch, hch⟩ : ∃ ch, b[n] = ch := ⟨_, rfl⟩
  rw [hch] at c0
  have hgd : b.getD n 0 = ch := by rw [List.getD, List.getElem?_eq_getElem hn, hch]; rfl
  have HD3 := HD2.out
  rw [Int.toNat_natCast, hgd] at HD3
  have h8 : ch.toNat < 256 := ch.toNat_lt
  have e3 : ((n : Int) == (b.length : Int)) = false := by rw [beq_eq_false_iff_ne]; omega
  clear HD1 HD2 hch hgd h1 h2 h3
  generalize ch.toNat = kk at *
  by_cases h20 : 20 ≤ kk
  · have HD4 : Hid (r = .inr 3) := Lib.hid (by rw [HD3, formsL_none h20])
    have hnm := rname_none (op := (kk : Int)) (by omega) w0
    clear HD3
    go_wp2_with (first | (go_at_call 19; refine hnm.mono ?_; rintro e w' ⟨rfl, rfl⟩))
    exact bodyPost_ret (rdec_result (set3C hw0 (.int .i64 0) (.int .i64 0) (.int .i64 0)) rfl rfl rfl) rfl ⟨below3C HB0.out (Nat.le_refl _) _ _ _, .inr ⟨3, HD4.out, rfl⟩⟩
  have hkk : kk < 20 := by omega
  obtain ⟨nmx, sa, la, sb, t, u, hrow, ⟨hsa, hsb⟩, hla, hne⟩ := formsL_get2 hkk
  rw [hrow] at HD3
  simp only [Int.toNat_natCast] at HD3
  have hnm := rname_row hkk hrow w0
  have hsz := rsize_any sa hsa la w0
  obtain ⟨nms, hnms⟩ : ∃ nms : ByteArray, (⟨nmx.toArray⟩ : ByteArray) = nms := ⟨_, rfl⟩
  rw [hnms] at hnm
  have hne2 : (nms.toList == (⟨#[]⟩ : ByteArray).toList) = false := (Lib.bytes_beq_false_iff _ _).2 (fun e => hne (by rw [← hnms] at e; injection e))
  have hne1 : (nms.toList == []) = false := by rw [← hne2, emptyB]
  clear hnms
  have HLa := Lib.hid hla
  clear h20 hrow hla hne
  generalize hRA : refA (sa : Int) la = ra at *
  have HRA := Lib.hid hRA
  clear hRA
  by_cases hover : b.length < n + 1 + sa + sb
  · have HD4 : Hid (r = .inr 4) := Lib.hid (by rw [HD3, if_pos hover])
    have hov : (b.length : Int) < (n : Int) + 1 + (sa : Int) + (sb : Int) := by omega
    clear HD3
    go_wp2_with (first | (go_at_call 19; refine hnm.mono ?_; rintro e w' ⟨rfl, rfl⟩) | (go_at_call 22; refine hsz.mono ?_; rintro e w' ⟨rfl, rfl⟩))
    exact bodyPost_ret (rdec_result (set3C hw0 (.int .i64 0) (.int .i64 0) (.int .i64 0)) rfl rfl rfl) rfl ⟨below3C HB0.out (Nat.le_refl _) _ _ _, .inr ⟨4, HD4.out, rfl⟩⟩
  have hov : ¬ ((b.length : Int) < (n : Int) + 1 + (sa : Int) + (sb : Int)) := by omega
  have HD5 := Lib.hid (HD3.trans (if_neg hover))
  clear HD3
  have hcs : n + 1 + sa + sb ≤ c := by omega
  have hla2 : (bytesAt b (n + 1) sa).length = sa := by unfold bytesAt; rw [List.length_take, List.length_drop]; omega
  have hlb2 : (bytesAt b (n + 1 + sa) sb).length = sb := by unfold bytesAt; rw [List.length_take, List.length_drop]; omega
  have hRd : ∀ k m, Rd w0.drew w.heap.size (some ⟨g, o + k, none⟩) (cb (bytesAt b k m)) := fun k m => by
    have h9 : Rd w0.drew w.heap.size (some ⟨g, o, none⟩) (cb b) := HR0.out.keep (fun x y _ => rfl)
    have h10 := (h9.drop_ k).take_ m
    unfold bytesAt
    rwa [show cb ((b.drop k).take m) = ((cb b).drop k).take m by simp [cb, List.map_drop, List.map_take]]
  obtain ⟨va, hva⟩ : ∃ va, getN sa la (bytesAt b (n + 1) sa) = va := ⟨_, rfl⟩
  obtain ⟨vb, hvb⟩ : ∃ vb, getN sb 0 (bytesAt b (n + 1 + sa) sb) = vb := ⟨_, rfl⟩
  have HGa : Hid (∀ A c, (sa = 0 ∨ A = some ⟨g, o + (n + 1), none⟩) → sa ≤ c → Calls Tryd.prog 23 #[.slice A sa c, .int .i64 ra] w0.drew fun e w'' => e = .returned (.int .i64 va) ∧ w0.drew = w'') := Lib.hid (fun A c hA hc => by
    rw [← hva, ← HRA.out]
    refine rget_any sa hsa la HLa.out (bytesAt b (n + 1) sa) hla2 A c w.heap.size w0.drew ?_ hc
    rcases hA with h | h
    · exact .inl (by rw [show bytesAt b (n + 1) sa = [] from List.eq_nil_of_length_eq_zero (by omega)]; rfl)
    · rw [h]; exact hRd _ _)
  have HGb : Hid (∀ A c, (sb = 0 ∨ A = some ⟨g, o + (n + 1 + sa), none⟩) → sb ≤ c → Calls Tryd.prog 23 #[.slice A sb c, .int .i64 (sb : Int)] w0.drew fun e w'' => e = .returned (.int .i64 vb) ∧ w0.drew = w'') := Lib.hid (fun A c hA hc => by
    rw [← hvb]
    have h := rget_any sb hsb 0 (.inl rfl) (bytesAt b (n + 1 + sa) sb) hlb2 A c w.heap.size w0.drew (by
      rcases hA with h | h
      · exact .inl (by rw [show bytesAt b (n + 1 + sa) sb = [] from List.eq_nil_of_length_eq_zero (by omega)]; rfl)
      · rw [h]; exact hRd _ _) hc
    rwa [show refA (sb : Int) 0 = (sb : Int) from rfl] at h)
  have HD6 : Hid (r = .inl (((kk : Int), va, vb), n + 1 + sa + sb)) := Lib.hid (by rw [HD5.out, ← hva, ← hvb])
  have i1 : (n : Int) + 1 ≤ (n : Int) + 1 + (sa : Int) := by omega
  have i2 : (n : Int) + 1 + (sa : Int) ≤ (c : Int) := by omega
  have i3 : (n : Int) + 1 + (sa : Int) ≤ (n : Int) + 1 + (sa : Int) + (sb : Int) := by omega
  have i4 : (n : Int) + 1 + (sa : Int) + (sb : Int) ≤ (c : Int) := by omega
  have i5 : (0 : Int) ≤ (n : Int) + 1 := by omega
  have i6 : (0 : Int) ≤ (n : Int) + 1 + (sa : Int) := by omega
  have i7 : (0 : Int) ≤ (n : Int) + 1 + (sa : Int) + (sb : Int) := by omega
  have i8 : (n : Int) + 1 + (sa : Int) ≤ max ((n : Int) + 1 + (sa : Int) + (sb : Int)) 0 := by omega
  have i9 : (0 : Int) ≤ (n : Int) := by omega
  have HT1 : Hid (((n : Int) + 1 + (sa : Int)).toNat = n + 1 + sa ∧ ((n : Int) + 1 + (sa : Int) + (sb : Int)).toNat = n + 1 + sa + sb ∧ ((n : Int) + 1).toNat = n + 1) := Lib.hid ⟨by omega, by omega, by omega⟩
  have HC0 := Lib.hid c0
  clear hRd hva hvb hla2 hlb2 HD5 hover
  go_wp2_with (first | (go_at_call 19; refine hnm.mono ?_; rintro e w' ⟨rfl, rfl⟩) | (go_at_call 22; refine hsz.mono ?_; rintro e w' ⟨rfl, rfl⟩))
  rename_i hKo
  have HKo := Lib.hid hKo
  clear hKo
  obtain ⟨A1, hA1⟩ : ∃ A1, (if c = n + 1 then some (⟨g, o, none⟩ : Addr) else some ⟨g, o + (n + 1), none⟩) = A1 := ⟨_, rfl⟩
  obtain ⟨A2, hA2⟩ : ∃ A2, (if c = n + 1 + sa then some (⟨g, o, none⟩ : Addr) else some ⟨g, o + (n + 1 + sa), none⟩) = A2 := ⟨_, rfl⟩
  have hq1 : sa = 0 ∨ A1 = some ⟨g, o + (n + 1), none⟩ := by
    by_cases hcn : c = n + 1
    · exact .inl (by omega)
    · rw [if_neg hcn] at hA1; exact .inr hA1.symm
  have hq2 : sb = 0 ∨ A2 = some ⟨g, o + (n + 1 + sa), none⟩ := by
    by_cases hcn : c = n + 1 + sa
    · exact .inl (by omega)
    · rw [if_neg hcn] at hA2; exact .inr hA2.symm
  have HQ := Lib.hid (And.intro hq1 hq2)
  have HCs := Lib.hid hcs
  clear hq1 hq2 hcs
  obtain ⟨hT1, hT2, hT3⟩ := HT1.out
  have hw3 : IntKind.i64.wrap (kk : Int) = (kk : Int) := wraps_i64C _ (by omega) (by omega)
  have hw1 : IntKind.i64.wrap ((n : Int) + 1) = (n : Int) + 1 := wraps_i64C _ (by omega) (by omega)
  have hw2 : IntKind.i64.wrap ((n : Int) + 1 + (sa : Int) + (sb : Int)) = (n : Int) + 1 + (sa : Int) + (sb : Int) := wraps_i64C _ (by omega) (by omega)
  refine wp_region_noPanic ?_
  refine wp_region_held_drew (S := (fun w' : World => w'.cell? ⟨g, o + n, none⟩ = some (.int .u8 (kk : Int)))) (by kernel_rfl) HC0.out (fun hHeld => ?_)
  refine wpAnyH_take (i := 0) (v := ?_) (by first | (simp only [List.getElem?_toArray, List.getElem?_cons_succ, List.getElem?_cons_zero]; rfl) | rfl) (by kernel_rfl) (by kernel_rfl) (by kernel_rfl) (fun _ _ _ h => h) (Or.inl ⟨by rfl, ?_⟩) (by assumption) ?_
  rotate_left 1
  · (intro w' hSw; (try dsimp only at hSw); go_simp; (try with_reducible rfl))
  try simp only [Act.put, List.setIfInBounds_toArray, List.set_cons_zero, List.set_cons_succ]
  refine wpAnyH_take (i := 1) (v := ?_) (by first | (simp only [List.getElem?_toArray, List.getElem?_cons_succ, List.getElem?_cons_zero]; rfl) | rfl) (by kernel_rfl) (by kernel_rfl) (by kernel_rfl) (fun _ _ _ h => h) (Or.inl ⟨by rfl, ?_⟩) (by assumption) ?_
  rotate_left 1
  · (intro w' hSw; (try dsimp only at hSw); go_simp; (try with_reducible rfl))
  try simp only [Act.put, List.setIfInBounds_toArray, List.set_cons_zero, List.set_cons_succ]
  refine wpAnyH_take (i := 2) (v := ?_) (by first | (simp only [List.getElem?_toArray, List.getElem?_cons_succ, List.getElem?_cons_zero]; rfl) | rfl) (by kernel_rfl) (by kernel_rfl) (by kernel_rfl) (fun _ _ _ h => h) (Or.inl ⟨by rfl, ?_⟩) (by assumption) ?_
  rotate_left 1
  · (intro w' hSw; (try dsimp only at hSw); go_simp; (try with_reducible rfl))
  try simp only [Act.put, List.setIfInBounds_toArray, List.set_cons_zero, List.set_cons_succ]
  refine wpAnyH_take (i := 3) (v := ?_) (by first | (simp only [List.getElem?_toArray, List.getElem?_cons_succ, List.getElem?_cons_zero]; rfl) | rfl) (by kernel_rfl) (by kernel_rfl) (by kernel_rfl) (fun _ _ _ h => h) (Or.inl ⟨by rfl, ?_⟩) (by assumption) ?_
  rotate_left 1
  · (intro w' hSw; (try dsimp only at hSw); go_simp; (try with_reducible rfl))
  try simp only [Act.put, List.setIfInBounds_toArray, List.set_cons_zero, List.set_cons_succ]
  refine wpAnyH_take (i := 4) (v := ?_) (by first | (simp only [List.getElem?_toArray, List.getElem?_cons_succ, List.getElem?_cons_zero]; rfl) | rfl) (by kernel_rfl) (by kernel_rfl) (by kernel_rfl) (fun _ _ _ h => h) (Or.inl ⟨by rfl, ?_⟩) (by assumption) ?_
  rotate_left 1
  · (intro w' hSw; (try dsimp only at hSw); go_simp; (try with_reducible rfl))
  try simp only [Act.put, List.setIfInBounds_toArray, List.set_cons_zero, List.set_cons_succ]
  refine wpAnyH_take (i := 5) (v := ?_) (by first | (simp only [List.getElem?_toArray, List.getElem?_cons_succ, List.getElem?_cons_zero]; rfl) | rfl) (by kernel_rfl) (by kernel_rfl) (by kernel_rfl) (fun _ _ _ h => h) (Or.inl ⟨by rfl, ?_⟩) (by assumption) ?_
  rotate_left 1
  · (intro w' hSw; (try dsimp only at hSw); go_simp; (try with_reducible rfl))
  try simp only [Act.put, List.setIfInBounds_toArray, List.set_cons_zero, List.set_cons_succ]
  refine wpAnyH_take (i := 6) (v := ?_) (by first | (simp only [List.getElem?_toArray, List.getElem?_cons_succ, List.getElem?_cons_zero]; rfl) | rfl) (by kernel_rfl) (by kernel_rfl) (by kernel_rfl) (fun _ _ _ h => h) (Or.inl ⟨by rfl, ?_⟩) (by assumption) ?_
  rotate_left 1
  · (intro w' hSw; (try dsimp only at hSw); go_simp; (try with_reducible rfl))
  try simp only [Act.put, List.setIfInBounds_toArray, List.set_cons_zero, List.set_cons_succ]
  refine wpAnyH_take (i := 7) (v := ?_) (by first | (simp only [List.getElem?_toArray, List.getElem?_cons_succ, List.getElem?_cons_zero]; rfl) | rfl) (by kernel_rfl) (by kernel_rfl) (by kernel_rfl) (fun _ _ _ h => h) (Or.inl ⟨by rfl, ?_⟩) (by assumption) ?_
  rotate_left 1
  · (intro w' hSw; (try dsimp only at hSw); go_simp; (try with_reducible rfl))
  try simp only [Act.put, List.setIfInBounds_toArray, List.set_cons_zero, List.set_cons_succ]
  refine wpAnyH_take (i := 8) (v := ?_) (by first | (simp only [List.getElem?_toArray, List.getElem?_cons_succ, List.getElem?_cons_zero]; rfl) | rfl) (by kernel_rfl) (by kernel_rfl) (by kernel_rfl) (fun _ _ _ h => h) (Or.inl ⟨by rfl, ?_⟩) (by assumption) ?_
  rotate_left 1
  · (intro w' hSw; (try dsimp only at hSw); go_simp; (try with_reducible rfl))
  try simp only [Act.put, List.setIfInBounds_toArray, List.set_cons_zero, List.set_cons_succ]
  refine wpAnyH_take (i := 9) (v := ?_) (by first | (simp only [List.getElem?_toArray, List.getElem?_cons_succ, List.getElem?_cons_zero]; rfl) | rfl) (by kernel_rfl) (by kernel_rfl) (by kernel_rfl) (fun _ _ _ h => h) (Or.inl ⟨by rfl, ?_⟩) (by assumption) ?_
  rotate_left 1
  · (intro w' hSw; (try dsimp only at hSw); go_simp; (try with_reducible rfl))
  try simp only [Act.put, List.setIfInBounds_toArray, List.set_cons_zero, List.set_cons_succ]
  refine wpAnyH_take (i := 10) (v := ?_) (by first | (simp only [List.getElem?_toArray, List.getElem?_cons_succ, List.getElem?_cons_zero]; rfl) | rfl) (by kernel_rfl) (by kernel_rfl) (by kernel_rfl) (fun _ _ _ h => h) (Or.inl ⟨by rfl, ?_⟩) (by assumption) ?_
  rotate_left 1
  · (intro w' hSw; (try dsimp only at hSw); go_simp; (try with_reducible rfl))
  try simp only [Act.put, List.setIfInBounds_toArray, List.set_cons_zero, List.set_cons_succ]
  refine wpAnyH_take (i := 12) (v := ?_) (by first | (simp only [List.getElem?_toArray, List.getElem?_cons_succ, List.getElem?_cons_zero]; rfl) | rfl) (by kernel_rfl) (by kernel_rfl) (by kernel_rfl) (fun _ _ _ h => h) (Or.inl ⟨by rfl, ?_⟩) (by assumption) ?_
  rotate_left 1
  · (intro w' hSw; (try dsimp only at hSw); go_simp; (try with_reducible rfl))
  try simp only [Act.put, List.setIfInBounds_toArray, List.set_cons_zero, List.set_cons_succ]
  refine wpAnyH_take (i := 13) (v := ?_) (by first | (simp only [List.getElem?_toArray, List.getElem?_cons_succ, List.getElem?_cons_zero]; rfl) | rfl) (by kernel_rfl) (by kernel_rfl) (by kernel_rfl) (fun _ _ _ h => h) (Or.inl ⟨by rfl, ?_⟩) (by assumption) ?_
  rotate_left 1
  · (intro w' hSw; (try dsimp only at hSw); go_simp; (try with_reducible rfl))
  try simp only [Act.put, List.setIfInBounds_toArray, List.set_cons_zero, List.set_cons_succ]
  refine wpAnyH_take (i := 14) (v := ?_) (by first | (simp only [List.getElem?_toArray, List.getElem?_cons_succ, List.getElem?_cons_zero]; rfl) | rfl) (by kernel_rfl) (by kernel_rfl) (by kernel_rfl) (fun _ _ _ h => h) (Or.inl ⟨by rfl, ?_⟩) (by assumption) ?_
  rotate_left 1
  · (intro w' hSw; (try dsimp only at hSw); go_simp; (try with_reducible rfl))
  try simp only [Act.put, List.setIfInBounds_toArray, List.set_cons_zero, List.set_cons_succ]
  refine wpAnyH_take (i := 15) (v := ?_) (by first | (simp only [List.getElem?_toArray, List.getElem?_cons_succ, List.getElem?_cons_zero]; rfl) | rfl) (by kernel_rfl) (by kernel_rfl) (by kernel_rfl) (fun _ _ _ h => h) (Or.inl ⟨by rfl, ?_⟩) (by assumption) ?_
  rotate_left 1
  · (intro w' hSw; (try dsimp only at hSw); go_simp; (try with_reducible rfl))
  try simp only [Act.put, List.setIfInBounds_toArray, List.set_cons_zero, List.set_cons_succ]
  refine wpAnyH_take (i := 16) (v := ?_) (by first | (simp only [List.getElem?_toArray, List.getElem?_cons_succ, List.getElem?_cons_zero]; rfl) | rfl) (by kernel_rfl) (by kernel_rfl) (by kernel_rfl) (fun _ _ _ h => h) (Or.inl ⟨by rfl, ?_⟩) (by assumption) ?_
  rotate_left 1
  · (intro w' hSw; (try dsimp only at hSw); go_simp; (try with_reducible rfl))
  try simp only [Act.put, List.setIfInBounds_toArray, List.set_cons_zero, List.set_cons_succ]
  refine wpAnyH_take (i := 17) (v := ?_) (by first | (simp only [List.getElem?_toArray, List.getElem?_cons_succ, List.getElem?_cons_zero]; rfl) | rfl) (by kernel_rfl) (by kernel_rfl) (by kernel_rfl) (fun _ _ _ h => h) (Or.inl ⟨by rfl, ?_⟩) (by assumption) ?_
  rotate_left 1
  · (intro w' hSw; (try dsimp only at hSw); go_simp; (try with_reducible rfl))
  try simp only [Act.put, List.setIfInBounds_toArray, List.set_cons_zero, List.set_cons_succ]
  refine wpAnyH_take (i := 18) (v := ?_) (by first | (simp only [List.getElem?_toArray, List.getElem?_cons_succ, List.getElem?_cons_zero]; rfl) | rfl) (by kernel_rfl) (by kernel_rfl) (by kernel_rfl) (fun _ _ _ h => h) (Or.inl ⟨by rfl, ?_⟩) (by assumption) ?_
  rotate_left 1
  · (intro w' hSw; (try dsimp only at hSw); go_simp; (try with_reducible rfl))
  try simp only [Act.put, List.setIfInBounds_toArray, List.set_cons_zero, List.set_cons_succ]
  refine wpAnyH_take (i := 21) (v := ?_) (by first | (simp only [List.getElem?_toArray, List.getElem?_cons_succ, List.getElem?_cons_zero]; rfl) | rfl) (by kernel_rfl) (by kernel_rfl) (by kernel_rfl) (fun _ _ _ h => h) (Or.inl ⟨by rfl, ?_⟩) (by assumption) ?_
  rotate_left 1
  · (intro w' hSw; (try dsimp only at hSw); go_simp; (try with_reducible rfl))
  try simp only [Act.put, List.setIfInBounds_toArray, List.set_cons_zero, List.set_cons_succ]
  refine wpAnyH_take (i := 22) (v := ?_) (by first | (simp only [List.getElem?_toArray, List.getElem?_cons_succ, List.getElem?_cons_zero]; rfl) | rfl) (by kernel_rfl) (by kernel_rfl) (by kernel_rfl) (fun _ _ _ h => h) (Or.inl ⟨by rfl, ?_⟩) (by assumption) ?_
  rotate_left 1
  · (intro w' hSw; (try dsimp only at hSw); go_simp; (try with_reducible rfl))
  try simp only [Act.put, List.setIfInBounds_toArray, List.set_cons_zero, List.set_cons_succ]
  refine wpAnyH_take (i := 23) (v := ?_) (by first | (simp only [List.getElem?_toArray, List.getElem?_cons_succ, List.getElem?_cons_zero]; rfl) | rfl) (by kernel_rfl) (by kernel_rfl) (by kernel_rfl) (fun _ _ _ h => h) (Or.inl ⟨by rfl, ?_⟩) (by assumption) ?_
  rotate_left 1
  · (intro w' hSw; (try dsimp only at hSw); go_simp; (try with_reducible rfl))
  try simp only [Act.put, List.setIfInBounds_toArray, List.set_cons_zero, List.set_cons_succ]
  refine wpAnyH_ready (rs := [11]) (by kernel_rfl) (by simp) ?_
  refine AllReadyH.cons (by first | (simp only [List.getElem?_toArray, List.getElem?_cons_succ, List.getElem?_cons_zero]; rfl) | rfl) (fun K hK => ?_) AllReadyH.nil
  go_simp
  refine (HGa.out _ _ HQ.out.1 (by have := HCs.out; omega)).mono ?_
  rintro e w3 ⟨rfl, rfl⟩
  dsimp only
  refine hK.out _ _ HC0.out (fun hHeld => ?_)
  clear hK K
  try simp only [Act.put, List.setIfInBounds_toArray, List.set_cons_zero, List.set_cons_succ]
  refine wpAnyH_ready (rs := [19]) (by kernel_rfl) (by simp) ?_
  refine AllReadyH.cons (by first | (simp only [List.getElem?_toArray, List.getElem?_cons_succ, List.getElem?_cons_zero]; rfl) | rfl) (fun K hK => ?_) AllReadyH.nil
  go_simp
  refine (HGb.out _ _ HQ.out.2 (by have := HCs.out; omega)).mono ?_
  rintro e w3 ⟨rfl, rfl⟩
  dsimp only
  refine hK.out _ _ HC0.out (fun hHeld => ?_)
  clear hK K
  try simp only [Act.put, List.setIfInBounds_toArray, List.set_cons_zero, List.set_cons_succ]
  refine wpAnyH_take (i := 20) (v := ?_) (by first | (simp only [List.getElem?_toArray, List.getElem?_cons_succ, List.getElem?_cons_zero]; rfl) | rfl) (by kernel_rfl) (by kernel_rfl) (by kernel_rfl) (fun _ _ _ h => h) (Or.inl ⟨by rfl, ?_⟩) (by assumption) ?_
  rotate_left 1
  · (intro w' hSw; (try dsimp only at hSw); go_simp; (try with_reducible rfl))
  try simp only [Act.put, List.setIfInBounds_toArray, List.set_cons_zero, List.set_cons_succ]
  refine wpAnyH_ready (rs := [24]) (by kernel_rfl) (by simp) ?_
  refine AllReadyH.cons (by first | (simp only [List.getElem?_toArray, List.getElem?_cons_succ, List.getElem?_cons_zero]; rfl) | rfl) (fun K hK => ?_) AllReadyH.nil
  go_simp
  have hwe := set3C hw0 (.int .i64 (kk : Int)) (.int .i64 va) (.int .i64 vb)
  have hbe := below3C HB0.out (Nat.le_refl _) (.int .i64 (kk : Int)) (.int .i64 va) (.int .i64 vb)
  refine hK.out _ _ ((hbe.cell (p := ⟨g, o + n, none⟩) hg).trans ((HB0.out.cell (p := ⟨g, o + n, none⟩) hg).symm.trans HC0.out)) (fun hHeld => ?_)
  clear hK K
  try simp only [Act.put, List.setIfInBounds_toArray, List.set_cons_zero, List.set_cons_succ]
  refine wpAnyH_take (i := 25) (v := ?_) (by first | (simp only [List.getElem?_toArray, List.getElem?_cons_succ, List.getElem?_cons_zero]; rfl) | rfl) (by kernel_rfl) (by kernel_rfl) (by kernel_rfl) (fun _ _ _ h => h) (Or.inl ⟨by rfl, ?_⟩) (by assumption) ?_
  rotate_left 1
  · (intro w' hSw; (try dsimp only at hSw); go_simp; (try with_reducible rfl))
  try simp only [Act.put, List.setIfInBounds_toArray, List.set_cons_zero, List.set_cons_succ]
  refine wpAnyH_take (i := 26) (v := ?_) (by first | (simp only [List.getElem?_toArray, List.getElem?_cons_succ, List.getElem?_cons_zero]; rfl) | rfl) (by kernel_rfl) (by kernel_rfl) (by kernel_rfl) (fun _ _ _ h => h) (Or.inl ⟨by rfl, ?_⟩) (by assumption) ?_
  rotate_left 1
  · (intro w' hSw; (try dsimp only at hSw); go_simp; (try with_reducible rfl))
  try simp only [Act.put, List.setIfInBounds_toArray, List.set_cons_zero, List.set_cons_succ]
  refine wpAnyH_done (by kernel_rfl) ?_ _
  refine NoPanic.normal ?_
  refine HKo.out _ _ ?_
  have HB6 := Lib.hid hbe.drew
  have HW6 := Lib.hid hwe
  clear hbe hwe hHeld HKo HC0 HQ HGa HGb HT1 hT1 hT2 hT3 hw1 hw2 hw3 hA1 hA2 hw0 HB0 HR0
  go_wp2_with fail
  exact bodyPost_ret (rdec_result ((drewC _ _).trans HW6.out) rfl rfl rfl) rfl ⟨HB6.out, .inl ⟨_, _, HD6.out, rfl⟩⟩
end Go.Proofs.YtghnpmhidcfghaaDoor.Fl

