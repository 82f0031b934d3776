/-
  The document's lexer: Next.
-/
import Derived.Test.YtakijeooaeflkaaGreatDoorLyD
import Derived.Test.YtakijeooaeflkaaGreatDoorLyN
namespace Go.Proofs.YtakijeooaeflkaaGreatDoor.Fl
open Go.RowKit

theorem rnext_result {W : World} {C : Nat} {v0 v1 v2 v3 u v : Value} {a : Array Value} (h : W.heap[C]? = some (.cells #[v0, v1, v2, v3] 25 (0, 0))) (h4 : a[4]?.getD undef = .pointer (some ⟨C, 0, none⟩)) (h5 : a[5]?.getD undef = u) (h6 : a[6]?.getD undef = v) :
    (results Tryz.f30 a).run Tryz.prog W = .ok (.tuple #[.agg #[v0, v1, v2, v3], u, v]) W := by
  obtain ⟨c0, c1, c2, c3, _⟩ := cells4L h
  simp [results, Tryz.results30, go_sem, h4, h5, h6, c0, c1, c2, c3]
/-- the place where no mark stands -/
theorem marks_not (c : Nat) (h : c < 256) (hn : ∀ i : Fin 7, (marksL.getD i 0).toNat ≠ c) : Lib.indexByte marksL (UInt8.ofNat c) = -1 := by
  have key : ∀ n : Fin 256, (∀ i : Fin 7, (marksL.getD i 0).toNat ≠ n.1) → Lib.indexByte marksL (UInt8.ofNat n) = -1 := by decide +kernel
  exact key ⟨c, h⟩ hn
theorem marks_op : ∀ i : Fin 7, operN (marksL.getD i 0).toNat = false ∧ (marksL.getD i 0).toNat ≠ 124 ∧ Lib.indexByte marksL (UInt8.ofNat (marksL.getD i 0).toNat) = i := by decide +kernel
set_option maxRecDepth 100000 in
set_option maxHeartbeats 8000000 in
theorem rnext_any (s : ByteArray) (p : Nat) (w : World) (hs : s.size ≤ 16777216) (hp : p ≤ s.size) :
    Calls Tryz.prog 30 #[.string s, .int .i64 (p : Int)] w (NextPost s (tokR s p) w) := by
  have hw1 := heap_alloc_new w (.cells #[.int .i64 0, .string ⟨#[]⟩, .int .i64 0, .int .i64 0] 25)
  have hb1 : Below w.heap.size w (w.alloc (.cells #[.int .i64 0, .string ⟨#[]⟩, .int .i64 0, .int .i64 0] 25)) := (Below.refl _ _).alloc (Nat.le_refl _) _
  have hsk := rskip_any s p (w.alloc (.cells #[.int .i64 0, .string ⟨#[]⟩, .int .i64 0, .int .i64 0] 25)) hs hp
  obtain ⟨r, hr⟩ : ∃ r, tokR s p = r := ⟨_, rfl⟩
  rw [hr]
  have HR := Lib.hid hr
  unfold tokR at HR
  have hsi : ∀ q, skipA none p ((sb s).drop p) = .inl q → q ≤ s.size := fun q h => by
    have := skipA_end _ _ _ _ h
    rw [List.length_drop, sb_len] at this
    omega
  have hsr : ∀ q, skipA none p ((sb s).drop p) = .inr q → q ≤ s.size := fun q h => by
    exact skip_in hp h
  clear hr
  generalize skipA none p ((sb s).drop p) = sk at *
  have hp0 : ¬ ((p : Int) < 0) := by omega
  have hp1 : ¬ ((s.size : Int) < (p : Int)) := by omega
  go_enter Tryz.func30, Tryz.ntmps30
  cases sk with
  | inr q =>
    have HE : Hid (r = .inr (4, q)) := Lib.hid HR.out.symm
    have hqs := hsr q rfl
    have hskv : skV (.inr q) = .tuple #[.int .i64 (q : Int), .bool false] := rfl
    rw [hskv] at hsk
    have f2 := cells4L hw1
    have l2 := lt_of_blk hw1
    have HW1 := Lib.hid hw1
    have HB1 := Lib.hid hb1
    clear HR hsi hsr hw1 hb1 hskv
    go_upto_region 5 with fail
    generalize w.alloc (.cells #[.int .i64 0, .string ⟨#[]⟩, .int .i64 0, .int .i64 0] 25) = w1 at *
    go_wp2_with (first | (go_at_call 61; refine hsk.mono ?_; rintro e w' ⟨rfl, rfl⟩))
    refine bodyPost_ret (v := .tuple #[tokV 0 ⟨#[]⟩ 0 0, .int .i64 (q : Int), .int .i64 4]) (rnext_result (set4 HW1.out (.int .i64 0) (.string ⟨#[]⟩) (.int .i64 0) (.int .i64 0)) rfl rfl rfl) rfl ?_
    exact ⟨(((HB1.out.setCell (p := ⟨w.heap.size, 0, none⟩) (Nat.le_refl _) _).setCell (p := ⟨w.heap.size, 1, none⟩) (Nat.le_refl _) _).setCell (p := ⟨w.heap.size, 2, none⟩) (Nat.le_refl _) _).setCell (p := ⟨w.heap.size, 3, none⟩) (Nat.le_refl _) _, .inr ⟨4, q, HE.out, hqs, rfl⟩⟩
  | inl q =>
    have HR0 : Hid (tokAt s q = r) := Lib.hid HR.out
    have hqs := hsi q rfl
    have hskv : skV (.inl q) = .tuple #[.int .i64 (q : Int), .bool true] := rfl
    rw [hskv] at hsk
    have HK := Lib.hid (RtW.make w (.int .i64 0) (.string ⟨#[]⟩) (.int .i64 0) (.int .i64 (q : Int)))
    clear HR hsi hsr hw1 hb1 hskv
    go_upto_region 9 with (first | (go_at_call 61; refine hsk.mono ?_; rintro e w' ⟨rfl, rfl⟩))
    clear hsk hp0 hp1
    generalize (w.alloc (.cells #[.int .i64 0, .string ⟨#[]⟩, .int .i64 0, .int .i64 0] 25)).alloc (.cells #[.int .i64 0, .string ⟨#[]⟩, .int .i64 0, .int .i64 (q : Int)] 25) = w2 at *
    obtain ⟨T, hT⟩ : ∃ T, w.heap.size + 1 = T := ⟨_, rfl⟩
    rw [hT] at HK ⊢
    obtain ⟨C, hC⟩ : ∃ C, w.heap.size = C := ⟨_, rfl⟩
    simp only [hC] at HK ⊢
    have f1 := cells4L HK.out.tok
    have f2 := cells4L HK.out.res
    have l1 := lt_of_blk HK.out.tok
    have l2 := lt_of_blk HK.out.res
    have hne := HK.out.ne.1
    have HCC := Lib.hid hC
    clear hT hC
    unfold tokAt at HR0
    by_cases hend : q = s.size
    · have HE := Lib.hid (HR0.out.symm.trans (if_pos hend))
      have hqb : ((q : Int) == (s.size : Int)) = true := by rw [beq_iff_eq]; omega
      clear HR0 hend
      go_wp2_with fail
      obtain ⟨g1, g2⟩ := HK.out.fin (.int .i64 0) (.string ⟨#[]⟩) (.int .i64 0) (.int .i64 (q : Int))
      refine bodyPost_ret (v := .tuple #[tokV 0 ⟨#[]⟩ 0 q, .int .i64 (q : Int), .int .i64 0]) (rnext_result g1 rfl rfl rfl) rfl ?_
      exact ⟨g2, .inl ⟨0, [], 0, q, q, ⟨#[]⟩, HE.out, hqs, hqs, rfl, rfl⟩⟩
    have HR1 := Lib.hid (HR0.out.symm.trans (if_neg hend))
    have hlt : q < s.size := by omega
    have hqb : ((q : Int) == (s.size : Int)) = false := by rw [beq_eq_false_iff_ne]; omega
    have hlk := lookB_at hlt
    have hc8 : s[q].toNat < 256 := s[q].toNat_lt
    rw [hlk] at HR1
    have hle := rletter_any s[q].toNat w2 hc8
    have hdi := rdigit_any s[q].toNat w2 hc8
    have HLK := Lib.hid hlk
    clear HR0 hend hlk
    cases hl : letterN s[q].toNat
    case true =>
      rw [hl] at hle HR1
      have HR2 := HR1.out.trans (if_pos rfl)
      have hll : letterN (lookB s q) = true := by rw [HLK.out]; exact hl
      have hkw := fun w' => rkeyword_any s q w' hs hqs
      have hnm := fun w' => rname_any s q w' hs hqs
      have hJ2 := (namedR_le hqs).2
      have hJlt := namedR_lt hqs hll
      have hkr := keyR_named hqs
      have HW := Lib.hid (mid_eq s q (namedR s q).2)
      have hWz : (s.extract q (namedR s q).2).size = (midL s q (namedR s q).2).length := by rw [← HW.out, sb_len]
      rw [← hWz] at HR2
      have hWs : (s.extract q (namedR s q).2).size ≤ 16777216 := by rw [hWz, midL_len s hJ2]; omega
      clear hWz HR1 hdi
      by_cases hk : (namedR s q).1 = 2
      · rw [if_pos ⟨hll, hk⟩] at hkr
        rw [hk] at HR2
        rw [hkr] at hkw
        clear hkr hk hnm
        generalize midL s q (namedR s q).2 = wd at *
        generalize (namedR s q).2 = J at *
        have hjb : ((J : Int) == (q : Int)) = false := by rw [beq_eq_false_iff_ne]; omega
        have HWs := Lib.hid hWs
        clear hll hWs
        go_upto_region 13 with (first | (go_at_call 62; refine hle.mono ?_; rintro e w' ⟨rfl, rfl⟩))
        clear hle
        have HKx := Lib.hid (HK.out.set (x0 := .int .i64 2) (x1 := .string ⟨#[]⟩) (x2 := .int .i64 0) (x3 := .int .i64 (q : Int)) 0 (.int .i64 2) rfl)
        clear HK
        go_upto_region 14 with fail
        clear f1 f2 l1 l2
        generalize w2.setCell ⟨T, 0, none⟩ (.int .i64 2) = w4 at *
        have f1 := cells4L HKx.out.tok
        have f2 := cells4L HKx.out.res
        have l1 := lt_of_blk HKx.out.tok
        have l2 := lt_of_blk HKx.out.res
        go_upto_region 15 with (first | (go_at_call 63; refine (hkw _).mono ?_; rintro e w' ⟨rfl, rfl⟩))
        clear hkw
        go_upto_region 18 with fail
        have HK4 := Lib.hid (HKx.out.set (x0 := .int .i64 2) (x1 := .string (s.extract q J)) (x2 := .int .i64 0) (x3 := .int .i64 (q : Int)) 1 (.string (s.extract q J)) rfl)
        clear HKx
        go_upto_region 19 with fail
        clear f1 l1 f2 l2
        generalize w4.setCell ⟨T, 1, none⟩ (.string (s.extract q J)) = w5 at *
        generalize s.extract q J = W at *
        have f1 := cells4L HK4.out.tok
        have f2 := cells4L HK4.out.res
        have l1 := lt_of_blk HK4.out.tok
        have l2 := lt_of_blk HK4.out.res
        by_cases h64 : 64 < W.size
        · have HE := Lib.hid (HR2.trans (if_pos h64))
          clear HR2
          go_wp2_with fail
          obtain ⟨g1, g2⟩ := HK4.out.fin (.int .i64 0) (.string ⟨#[]⟩) (.int .i64 0) (.int .i64 0)
          refine bodyPost_ret (v := .tuple #[tokV 0 ⟨#[]⟩ 0 0, .int .i64 (q : Int), .int .i64 2]) (rnext_result g1 rfl rfl rfl) rfl ?_
          exact ⟨g2, .inr ⟨2, q, HE.out, hqs, rfl⟩⟩
        · have HE := Lib.hid (HR2.trans (if_neg h64))
          clear HR2
          go_wp2_with fail
          obtain ⟨g1, g2⟩ := HK4.out.fin (.int .i64 2) (.string W) (.int .i64 0) (.int .i64 (q : Int))
          refine bodyPost_ret (v := .tuple #[tokV 2 W 0 q, .int .i64 (J : Int), .int .i64 0]) (rnext_result g1 rfl rfl rfl) rfl ?_
          exact ⟨g2, .inl ⟨2, wd, 0, q, J, W, HE.out, hqs, hJ2, HW.out, rfl⟩⟩

      · have hk1 : (namedR s q).1 = 1 ∧ (namedR s q).2 = nameN s q := by
          have hk2 := hk
          unfold namedR at hk2 ⊢
          unfold nameN
          rw [if_pos hll]
          split
          · next h => rw [if_pos h] at hk2; exact absurd rfl hk2
          · exact ⟨rfl, rfl⟩
        rw [if_neg (fun h => hk h.2)] at hkr
        rw [hk1.1] at HR2
        rw [hkr] at hkw
        rw [hk1.2] at HR2 HW hJ2 hJlt hWs
        clear hkr hk hk1
        generalize midL s q (nameN s q) = wd at *
        generalize nameN s q = J at *
        have HWs := Lib.hid hWs
        clear hll hWs
        go_upto_region 13 with (first | (go_at_call 62; refine hle.mono ?_; rintro e w' ⟨rfl, rfl⟩))
        clear hle
        have HK1 := Lib.hid (HK.out.set (x0 := .int .i64 2) (x1 := .string ⟨#[]⟩) (x2 := .int .i64 0) (x3 := .int .i64 (q : Int)) 0 (.int .i64 2) rfl)
        clear HK
        go_upto_region 14 with fail
        clear f1 f2 l1 l2
        generalize w2.setCell ⟨T, 0, none⟩ (.int .i64 2) = w3 at *
        have f1 := cells4L HK1.out.tok
        have f2 := cells4L HK1.out.res
        have l1 := lt_of_blk HK1.out.tok
        have l2 := lt_of_blk HK1.out.res
        go_upto_region 15 with (first | (go_at_call 63; refine (hkw _).mono ?_; rintro e w' ⟨rfl, rfl⟩))
        clear hkw
        have HKx := Lib.hid (HK1.out.set (x0 := .int .i64 1) (x1 := .string ⟨#[]⟩) (x2 := .int .i64 0) (x3 := .int .i64 (q : Int)) 0 (.int .i64 1) rfl)
        clear HK1
        go_upto_region 17 with fail
        clear f1 f2 l1 l2
        generalize w3.setCell ⟨T, 0, none⟩ (.int .i64 1) = w4 at *
        have f1 := cells4L HKx.out.tok
        have f2 := cells4L HKx.out.res
        have l1 := lt_of_blk HKx.out.tok
        have l2 := lt_of_blk HKx.out.res
        go_upto_region 18 with (first | (go_at_call 59; refine (hnm _).mono ?_; rintro e w' ⟨rfl, rfl⟩))
        clear hnm
        have HK4 := Lib.hid (HKx.out.set (x0 := .int .i64 1) (x1 := .string (s.extract q J)) (x2 := .int .i64 0) (x3 := .int .i64 (q : Int)) 1 (.string (s.extract q J)) rfl)
        clear HKx
        go_upto_region 19 with fail
        clear f1 l1 f2 l2
        generalize w4.setCell ⟨T, 1, none⟩ (.string (s.extract q J)) = w5 at *
        generalize s.extract q J = W at *
        have f1 := cells4L HK4.out.tok
        have f2 := cells4L HK4.out.res
        have l1 := lt_of_blk HK4.out.tok
        have l2 := lt_of_blk HK4.out.res
        by_cases h64 : 64 < W.size
        · have HE := Lib.hid (HR2.trans (if_pos h64))
          clear HR2
          go_wp2_with fail
          obtain ⟨g1, g2⟩ := HK4.out.fin (.int .i64 0) (.string ⟨#[]⟩) (.int .i64 0) (.int .i64 0)
          refine bodyPost_ret (v := .tuple #[tokV 0 ⟨#[]⟩ 0 0, .int .i64 (q : Int), .int .i64 2]) (rnext_result g1 rfl rfl rfl) rfl ?_
          exact ⟨g2, .inr ⟨2, q, HE.out, hqs, rfl⟩⟩
        · have HE := Lib.hid (HR2.trans (if_neg h64))
          clear HR2
          go_wp2_with fail
          obtain ⟨g1, g2⟩ := HK4.out.fin (.int .i64 1) (.string W) (.int .i64 0) (.int .i64 (q : Int))
          refine bodyPost_ret (v := .tuple #[tokV 1 W 0 q, .int .i64 (J : Int), .int .i64 0]) (rnext_result g1 rfl rfl rfl) rfl ?_
          exact ⟨g2, .inl ⟨1, wd, 0, q, J, W, HE.out, hqs, hJ2, HW.out, rfl⟩⟩

    case false =>
    rw [hl] at hle HR1
    have HR2 := HR1.out.trans (if_neg (by decide))
    clear HR1
    cases hd : digitN s[q].toNat
    case true =>
      rw [hd] at hdi HR2
      have HR3 := HR2.trans (if_pos rfl)
      have hJ := runE_le (f := digitN) hqs
      have HW := Lib.hid (mid_eq s q (runE digitN s q))
      have hWs : (s.extract q (runE digitN s q)).size ≤ 16777216 := by rw [← sb_len, HW.out, midL_len s hJ.2]; omega
      have hpa := rparse_anyL (s.extract q (runE digitN s q)) w2 hWs
      rw [HW.out] at hpa
      clear HR2 HW hWs
      generalize pe (midL s q (runE digitN s q)) = P at *
      generalize pv (midL s q (runE digitN s q)) = V at *
      obtain ⟨J, hJe⟩ : ∃ J, runE digitN s q = J := ⟨_, rfl⟩
      have HJ := Lib.hid hJe
      rw [hJe] at HR3 hJ hpa
      have HRx := Lib.hid HR3
      clear HR3 hJe
      obtain ⟨hJ1, hJ2⟩ := hJ
      go_upto_region 13 with (first | (go_at_call 62; refine hle.mono ?_; rintro e w' ⟨rfl, rfl⟩))
      clear hle
      go_upto_region 23 with (first | (go_at_call 64; refine hdi.mono ?_; rintro e w' ⟨rfl, rfl⟩))
      clear hdi
      go_upto_region 24 with fail
      go_loopw [11] (fun v wr => ∃ t : Nat, q ≤ t ∧ t ≤ s.size ∧ v = .int .i64 (t : Int) ∧ Hid (runE digitN s t = J) ∧ w2 = wr) (fun v _ => s.size - (intOf v).toNat)
      case atStart => exact ⟨q, Nat.le_refl _, hqs, rfl, HJ, rfl⟩
      case round =>
        clear HJ
        obtain ⟨t, hqt, ht, rfl, HJ, rfl⟩ := hrel
        have hpa2 := hpa
        by_cases hlt2 : t < s.size
        case neg =>
          have e : t = J := by
            have e1 : t = s.size := by omega
            rw [← HJ.out, e1, runE_end]
          subst e
          clear hpa
          go_upto_region 27 with (first | (go_at_call 65; refine hpa2.mono ?_; rintro e w' ⟨rfl, rfl⟩))
          clear hpa2
          by_cases hP : P = 0
          · subst hP
            have HE := Lib.hid (HRx.out.trans (if_pos rfl))
            clear HRx
            go_wp2_with fail
            obtain ⟨g1, g2⟩ := ((HK.out.set (x0 := .int .i64 3) (x1 := .string ⟨#[]⟩) (x2 := .int .i64 0) (x3 := .int .i64 (q : Int)) 0 (.int .i64 3) rfl).set (x0 := .int .i64 3) (x1 := .string ⟨#[]⟩) (x2 := .int .i64 V) (x3 := .int .i64 (q : Int)) 2 (.int .i64 V) rfl).fin (.int .i64 3) (.string ⟨#[]⟩) (.int .i64 V) (.int .i64 (q : Int))
            refine bodyPost_ret (v := .tuple #[tokV 3 ⟨#[]⟩ V q, .int .i64 (t : Int), .int .i64 0]) (rnext_result g1 rfl rfl rfl) rfl ?_
            exact ⟨g2, .inl ⟨3, [], V, q, t, ⟨#[]⟩, HE.out, hqs, hJ2, rfl, rfl⟩⟩
          · have HE := Lib.hid (HRx.out.trans (if_neg hP))
            have hPb : (P != 0) = true := by rw [bne_iff_ne]; exact hP
            clear HRx hP
            go_wp2_with fail
            obtain ⟨g1, g2⟩ := HK.out.fin (.int .i64 0) (.string ⟨#[]⟩) (.int .i64 0) (.int .i64 0)
            refine bodyPost_ret (v := .tuple #[tokV 0 ⟨#[]⟩ 0 0, .int .i64 (q : Int), .int .i64 P]) (rnext_result g1 rfl rfl rfl) rfl ?_
            exact ⟨g2, .inr ⟨P, q, HE.out, hqs, rfl⟩⟩
        have hb8 := s[t].toNat_lt
        have hdt := rdigit_any s[t].toNat w2 hb8
        cases hv : digitN s[t].toNat
        · have e : t = J := by rw [← HJ.out, runE_stop hlt2 hv]
          subst e
          rw [hv] at hdt
          clear hpa
          go_upto_region 27 with (first | (go_at_call 64; refine hdt.mono ?_; rintro e w' ⟨rfl, rfl⟩) | (go_at_call 65; refine hpa2.mono ?_; rintro e w' ⟨rfl, rfl⟩))
          clear hdt
          clear hpa2
          by_cases hP : P = 0
          · subst hP
            have HE := Lib.hid (HRx.out.trans (if_pos rfl))
            clear HRx
            go_wp2_with fail
            obtain ⟨g1, g2⟩ := ((HK.out.set (x0 := .int .i64 3) (x1 := .string ⟨#[]⟩) (x2 := .int .i64 0) (x3 := .int .i64 (q : Int)) 0 (.int .i64 3) rfl).set (x0 := .int .i64 3) (x1 := .string ⟨#[]⟩) (x2 := .int .i64 V) (x3 := .int .i64 (q : Int)) 2 (.int .i64 V) rfl).fin (.int .i64 3) (.string ⟨#[]⟩) (.int .i64 V) (.int .i64 (q : Int))
            refine bodyPost_ret (v := .tuple #[tokV 3 ⟨#[]⟩ V q, .int .i64 (t : Int), .int .i64 0]) (rnext_result g1 rfl rfl rfl) rfl ?_
            exact ⟨g2, .inl ⟨3, [], V, q, t, ⟨#[]⟩, HE.out, hqs, hJ2, rfl, rfl⟩⟩
          · have HE := Lib.hid (HRx.out.trans (if_neg hP))
            have hPb : (P != 0) = true := by rw [bne_iff_ne]; exact hP
            clear HRx hP
            go_wp2_with fail
            obtain ⟨g1, g2⟩ := HK.out.fin (.int .i64 0) (.string ⟨#[]⟩) (.int .i64 0) (.int .i64 0)
            refine bodyPost_ret (v := .tuple #[tokV 0 ⟨#[]⟩ 0 0, .int .i64 (q : Int), .int .i64 P]) (rnext_result g1 rfl rfl rfl) rfl ?_
            exact ⟨g2, .inr ⟨P, q, HE.out, hqs, rfl⟩⟩
        · have HS := Lib.hid ((runE_step hlt2 hv).symm.trans HJ.out)
          rw [hv] at hdt
          clear hpa hpa2
          go_wp2_with (first | (go_at_call 64; refine hdt.mono ?_; rintro e w' ⟨rfl, rfl⟩))
          go_roundw
          case rel => exact ⟨t + 1, by omega, hlt2, rfl, HS, trivial⟩
          case measure => simp [intOf]; omega
    case false =>
    rw [hd] at hdi HR2
    have HR3 := HR2.trans (if_neg (by decide))
    have hcz : ¬ (s[q].toNat = 0) ∨ s[q].toNat = 0 := by omega
    clear HR2
    by_cases h36 : s[q].toNat = 36
    · have HR4 := HR3.trans (if_pos h36)
      have e36 : ((s[q].toNat : Int) == 36) = true := by rw [beq_iff_eq]; omega
      clear HR3 h36 hcz
      by_cases hq1 : q + 1 = s.size
      · have HE := Lib.hid (HR4.trans (if_pos hq1))
        have hb : ((q : Int) + 1 == (s.size : Int)) = true := by rw [beq_iff_eq]; omega
        clear HR4 hq1
        go_wp2_with (first | (go_at_call 62; refine hle.mono ?_; rintro e w' ⟨rfl, rfl⟩) | (go_at_call 64; refine hdi.mono ?_; rintro e w' ⟨rfl, rfl⟩))
        obtain ⟨g1, g2⟩ := HK.out.fin (.int .i64 0) (.string ⟨#[]⟩) (.int .i64 0) (.int .i64 0)
        refine bodyPost_ret (v := .tuple #[tokV 0 ⟨#[]⟩ 0 0, .int .i64 (q : Int), .int .i64 4]) (rnext_result g1 rfl rfl rfl) rfl ?_
        exact ⟨g2, .inr ⟨4, q, HE.out, hqs, rfl⟩⟩
      · have hlt1 : q + 1 < s.size := by omega
        have hb : ((q : Int) + 1 == (s.size : Int)) = false := by rw [beq_eq_false_iff_ne]; omega
        have hb8 : (s[q + 1].toNat : Int) ≤ 255 := by have := s[q + 1].toNat_lt; omega
        have HE : Hid (r = .inl (3, [], (s[q + 1].toNat : Int), q, q + 2)) := Lib.hid (by rw [HR4, if_neg hq1, lookB_at hlt1])
        clear HR4 hq1
        go_wp2_with (first | (go_at_call 62; refine hle.mono ?_; rintro e w' ⟨rfl, rfl⟩) | (go_at_call 64; refine hdi.mono ?_; rintro e w' ⟨rfl, rfl⟩))
        obtain ⟨g1, g2⟩ := ((HK.out.set (x0 := .int .i64 3) (x1 := .string ⟨#[]⟩) (x2 := .int .i64 0) (x3 := .int .i64 (q : Int)) 0 (.int .i64 3) rfl).set (x0 := .int .i64 3) (x1 := .string ⟨#[]⟩) (x2 := .int .i64 (s[q + 1].toNat : Int)) (x3 := .int .i64 (q : Int)) 2 (.int .i64 (s[q + 1].toNat : Int)) rfl).fin (.int .i64 3) (.string ⟨#[]⟩) (.int .i64 (s[q + 1].toNat : Int)) (.int .i64 (q : Int))
        refine bodyPost_ret (v := .tuple #[tokV 3 ⟨#[]⟩ (s[q + 1].toNat : Int) q, .int .i64 ((q + 2 : Nat) : Int), .int .i64 0]) (rnext_result g1 rfl rfl rfl) rfl ?_
        exact ⟨g2, .inl ⟨3, [], (s[q + 1].toNat : Int), q, q + 2, ⟨#[]⟩, HE.out, hqs, hlt1, rfl, rfl⟩⟩
    have HR4 := HR3.trans (if_neg h36)
    have e36 : ((s[q].toNat : Int) == 36) = false := by rw [beq_eq_false_iff_ne]; omega
    clear HR3
    by_cases h39 : s[q].toNat = 39
    · have HR5 := HR4.trans (if_pos h39)
      have e39 : ((s[q].toNat : Int) == 39) = true := by rw [beq_iff_eq]; omega
      have htx := rtext_s s q w2 hs hlt
      rw [txt_quo] at htx
      clear HR4 h36 h39 hcz
      generalize quoA (q + 1) ((sb s).drop (q + 1)) = qr at *
      go_upto_region 40 with (first | (go_at_call 62; refine hle.mono ?_; rintro e w' ⟨rfl, rfl⟩) | (go_at_call 64; refine hdi.mono ?_; rintro e w' ⟨rfl, rfl⟩))
      clear hle hdi
      go_upto_region 41 with (first | (go_at_call 66; refine htx.mono ?_; rintro e w3 ⟨hb3, (⟨hn, rfl⟩ | ⟨t, p3, hn, hp1, hp2, htl, rfl⟩)⟩))
      · cases qr with
        | some p3 => cases hn
        | none =>
        have HK3 := Lib.hid (HK.out.below hb3)
        have HE : Hid (r = .inr (4, q)) := Lib.hid HR5
        clear f1 f2 l1 l2 htx hn HR5 HK hb3
        have f1 := cells4L HK3.out.tok
        have f2 := cells4L HK3.out.res
        have l1 := lt_of_blk HK3.out.tok
        have l2 := lt_of_blk HK3.out.res
        go_wp2_with fail
        obtain ⟨g1, g2⟩ := HK3.out.fin (.int .i64 0) (.string ⟨#[]⟩) (.int .i64 0) (.int .i64 0)
        refine bodyPost_ret (v := .tuple #[tokV 0 ⟨#[]⟩ 0 0, .int .i64 (q : Int), .int .i64 4]) (rnext_result g1 rfl rfl rfl) rfl ?_
        exact ⟨g2, .inr ⟨4, q, HE.out, hqs, rfl⟩⟩
      · cases qr with
        | none => cases hn
        | some p4 =>
        simp only [Option.map_some, Option.some.injEq, Prod.mk.injEq] at hn
        obtain ⟨hn1, hn2⟩ := hn
        subst hn2
        have HR6 := HR5
        simp only [hn1] at HR6
        have HK3 := Lib.hid (HK.out.below hb3)
        have htz : (mkB t).size = t.length := mkB_size t
        have hts : (mkB t).size ≤ 16777216 := by omega
        have HW := Lib.hid (show sb (mkB t) = t from sb_mk t)
        rw [← htz] at HR6
        clear f1 f2 l1 l2 htx hn1 HR5 HK hb3 htz
        generalize mkB t = W at *
        have f1 := cells4L HK3.out.tok
        have f2 := cells4L HK3.out.res
        have l1 := lt_of_blk HK3.out.tok
        have l2 := lt_of_blk HK3.out.res
        by_cases h64 : 4096 < W.size
        · have HE := Lib.hid (HR6.trans (if_pos h64))
          clear HR6
          go_wp2_with fail
          obtain ⟨g1, g2⟩ := HK3.out.fin (.int .i64 0) (.string ⟨#[]⟩) (.int .i64 0) (.int .i64 0)
          refine bodyPost_ret (v := .tuple #[tokV 0 ⟨#[]⟩ 0 0, .int .i64 (q : Int), .int .i64 2]) (rnext_result g1 rfl rfl rfl) rfl ?_
          exact ⟨g2, .inr ⟨2, q, HE.out, hqs, rfl⟩⟩
        · have HE := Lib.hid (HR6.trans (if_neg h64))
          clear HR6
          go_wp2_with fail
          obtain ⟨g1, g2⟩ := ((HK3.out.set (x0 := .int .i64 4) (x1 := .string ⟨#[]⟩) (x2 := .int .i64 0) (x3 := .int .i64 (q : Int)) 0 (.int .i64 4) rfl).set (x0 := .int .i64 4) (x1 := .string W) (x2 := .int .i64 0) (x3 := .int .i64 (q : Int)) 1 (.string W) rfl).fin (.int .i64 4) (.string W) (.int .i64 0) (.int .i64 (q : Int))
          refine bodyPost_ret (v := .tuple #[tokV 4 W 0 q, .int .i64 (p4 : Int), .int .i64 0]) (rnext_result g1 rfl rfl rfl) rfl ?_
          exact ⟨g2, .inl ⟨4, t, 0, q, p4, W, HE.out, hqs, hp2, HW.out, rfl⟩⟩
    have HR5 := HR4.trans (if_neg h39)
    have e39 : ((s[q].toNat : Int) == 39) = false := by rw [beq_eq_false_iff_ne]; omega
    clear HR4
    by_cases h35 : s[q].toNat = 35
    · have HR6 := HR5.trans (if_pos h35)
      have e35 : ((s[q].toNat : Int) == 35) = true := by rw [beq_iff_eq]; omega
      have hsy := rsymbol_any s q w2 hs hlt
      rw [← HR6] at hsy
      clear HR5 HR6 h36 h39 h35 hcz
      go_upto_region 49 with (first | (go_at_call 62; refine hle.mono ?_; rintro e w' ⟨rfl, rfl⟩) | (go_at_call 64; refine hdi.mono ?_; rintro e w' ⟨rfl, rfl⟩))
      clear hle hdi
      go_wp2_with fail
      refine hsy.mono ?_
      rintro e w3 ⟨hb3, (⟨k, t, n, q3, p3, tb, hr3, hq3, hp3, htb, rfl⟩ | ⟨n, q3, hr3, hq3, rfl⟩)⟩
      · have HK3 := Lib.hid (HK.out.below hb3)
        clear f1 f2 l1 l2 hsy HK hb3
        have f1 := cells4L HK3.out.tok
        have f2 := cells4L HK3.out.res
        have l1 := lt_of_blk HK3.out.tok
        have l2 := lt_of_blk HK3.out.res
        have HX := Lib.hid (And.intro hr3 htb)
        clear hr3 htb
        unfold tokV
        go_wp2_with fail
        obtain ⟨g1, g2⟩ := HK3.out.fin (.int .i64 (k : Int)) (.string tb) (.int .i64 n) (.int .i64 (q3 : Int))
        refine bodyPost_ret (v := .tuple #[tokV k tb n q3, .int .i64 (p3 : Int), .int .i64 0]) (rnext_result g1 rfl rfl rfl) rfl ?_
        exact ⟨g2, .inl ⟨k, t, n, q3, p3, tb, HX.out.1, hq3, hp3, HX.out.2, rfl⟩⟩
      · have HK3 := Lib.hid (HK.out.below hb3)
        clear f1 f2 l1 l2 hsy HK hb3
        have f1 := cells4L HK3.out.tok
        have f2 := cells4L HK3.out.res
        have l1 := lt_of_blk HK3.out.tok
        have l2 := lt_of_blk HK3.out.res
        have HX := Lib.hid hr3
        clear hr3
        unfold tokV
        go_wp2_with fail
        obtain ⟨g1, g2⟩ := HK3.out.fin (.int .i64 0) (.string ⟨#[]⟩) (.int .i64 0) (.int .i64 0)
        refine bodyPost_ret (v := .tuple #[tokV 0 ⟨#[]⟩ 0 0, .int .i64 (q3 : Int), .int .i64 n]) (rnext_result g1 rfl rfl rfl) rfl ?_
        exact ⟨g2, .inr ⟨n, q3, HX.out, hq3, rfl⟩⟩
    have HR6 := HR5.trans (if_neg h35)
    have e35 : ((s[q].toNat : Int) == 35) = false := by rw [beq_eq_false_iff_ne]; omega
    have hoe := opF_eq s q hqs
    rw [HLK.out] at hoe
    unfold markR at HR6
    rw [HLK.out] at HR6
    clear HR5 h36 h39 h35 hcz
    by_cases h58 : s[q].toNat = 58
    · have e58 : ((s[q].toNat : Int) == 58) = true := by rw [beq_iff_eq]; omega
      have h0 : opF s q 2 = 0 := by rw [hoe, h58]; rfl
      have HR7 : r = if lookB s (q + 1) ≠ 61 then .inl (16, [], 0, q, q + 1) else .inl (7, [], 0, q, q + 2) := by
        rw [HR6, if_neg (fun h => h h0), h58, if_neg (by decide), if_neg (by decide)]
        split <;> rfl
      clear HR6 hoe h58 h0
      by_cases h1 : q + 1 < s.size
      · rw [lookB_at h1] at HR7
        by_cases h61 : s[q + 1].toNat = 61
        · have HE := Lib.hid (HR7.trans (if_neg (fun h => h h61)))
          have e61 : ((s[q + 1].toNat : Int) == 61) = true := by rw [beq_iff_eq]; omega
          clear HR7 h61
          go_wp2_with (first | (go_at_call 62; refine hle.mono ?_; rintro e w' ⟨rfl, rfl⟩) | (go_at_call 64; refine hdi.mono ?_; rintro e w' ⟨rfl, rfl⟩))
          obtain ⟨g1, g2⟩ := (HK.out.set (x0 := .int .i64 7) (x1 := .string ⟨#[]⟩) (x2 := .int .i64 0) (x3 := .int .i64 (q : Int)) 0 (.int .i64 7) rfl).fin (.int .i64 7) (.string ⟨#[]⟩) (.int .i64 0) (.int .i64 (q : Int))
          refine bodyPost_ret (v := .tuple #[tokV 7 ⟨#[]⟩ 0 q, .int .i64 ((q + 2 : Nat) : Int), .int .i64 0]) (rnext_result g1 rfl rfl rfl) rfl ?_
          exact ⟨g2, .inl ⟨7, [], 0, q, q + 2, ⟨#[]⟩, HE.out, hqs, h1, rfl, rfl⟩⟩
        · have HE := Lib.hid (HR7.trans (if_pos h61))
          have e61 : ((s[q + 1].toNat : Int) == 61) = false := by rw [beq_eq_false_iff_ne]; omega
          clear HR7 h61
          go_wp2_with (first | (go_at_call 62; refine hle.mono ?_; rintro e w' ⟨rfl, rfl⟩) | (go_at_call 64; refine hdi.mono ?_; rintro e w' ⟨rfl, rfl⟩))
          obtain ⟨g1, g2⟩ := (HK.out.set (x0 := .int .i64 16) (x1 := .string ⟨#[]⟩) (x2 := .int .i64 0) (x3 := .int .i64 (q : Int)) 0 (.int .i64 16) rfl).fin (.int .i64 16) (.string ⟨#[]⟩) (.int .i64 0) (.int .i64 (q : Int))
          refine bodyPost_ret (v := .tuple #[tokV 16 ⟨#[]⟩ 0 q, .int .i64 ((q + 1 : Nat) : Int), .int .i64 0]) (rnext_result g1 rfl rfl rfl) rfl ?_
          exact ⟨g2, .inl ⟨16, [], 0, q, q + 1, ⟨#[]⟩, HE.out, hqs, by omega, rfl, rfl⟩⟩
      · have HE := Lib.hid (HR7.trans (if_pos (by rw [lookB_no (by omega)]; decide)))
        clear HR7
        go_wp2_with (first | (go_at_call 62; refine hle.mono ?_; rintro e w' ⟨rfl, rfl⟩) | (go_at_call 64; refine hdi.mono ?_; rintro e w' ⟨rfl, rfl⟩))
        obtain ⟨g1, g2⟩ := (HK.out.set (x0 := .int .i64 16) (x1 := .string ⟨#[]⟩) (x2 := .int .i64 0) (x3 := .int .i64 (q : Int)) 0 (.int .i64 16) rfl).fin (.int .i64 16) (.string ⟨#[]⟩) (.int .i64 0) (.int .i64 (q : Int))
        refine bodyPost_ret (v := .tuple #[tokV 16 ⟨#[]⟩ 0 q, .int .i64 ((q + 1 : Nat) : Int), .int .i64 0]) (rnext_result g1 rfl rfl rfl) rfl ?_
        exact ⟨g2, .inl ⟨16, [], 0, q, q + 1, ⟨#[]⟩, HE.out, hqs, hlt, rfl, rfl⟩⟩
    have e58 : ((s[q].toNat : Int) == 58) = false := by rw [beq_eq_false_iff_ne]; omega
    have hopw := roper_any s q w2 hs hqs
    have hol := opF_le s q hqs 2
    have HOE := Lib.hid hoe
    have HR7 := Lib.hid HR6
    have HC58 := Lib.hid h58
    clear hoe HR6 h58
    go_upto_region 58 with (first | (go_at_call 62; refine hle.mono ?_; rintro e w' ⟨rfl, rfl⟩) | (go_at_call 64; refine hdi.mono ?_; rintro e w' ⟨rfl, rfl⟩))
    clear hle hdi
    go_loopw [18] (fun v wr => ∃ i : Nat, i ≤ 7 ∧ v = .int .i64 (i : Int) ∧ Hid (∀ j, j < i → (marksL.getD j 0).toNat ≠ s[q].toNat) ∧ w2 = wr) (fun v _ => 7 - (intOf v).toNat)
    case atStart => exact ⟨0, by omega, rfl, Lib.hid (fun j h => absurd h (Nat.not_lt_zero j)), rfl⟩
    case round =>
      obtain ⟨i, hi, rfl, HN, rfl⟩ := hrel
      by_cases hi7 : i = 7
      · subst hi7
        have hix := marks_not s[q].toNat hc8 (fun i => HN.out i.1 i.2)
        have HR8 := HR7.out
        rw [hix] at HR8
        clear HR7 HN hix
        by_cases hn0 : opF s q 2 = 0
        · have HE : Hid (r = .inr (3, q)) := Lib.hid (by rw [HR8, if_neg (fun h => h hn0), if_neg (by decide), if_pos HC58.out]; rfl)
          rw [hn0, Nat.add_zero] at hopw
          clear HR8 hn0 hol HOE HC58
          go_wp2_with (first | (go_at_call 60; refine hopw.mono ?_; rintro e w' ⟨rfl, rfl⟩))
          obtain ⟨g1, g2⟩ := HK.out.fin (.int .i64 0) (.string ⟨#[]⟩) (.int .i64 0) (.int .i64 0)
          refine bodyPost_ret (v := .tuple #[tokV 0 ⟨#[]⟩ 0 0, .int .i64 (q : Int), .int .i64 3]) (rnext_result g1 rfl rfl rfl) rfl ?_
          exact ⟨g2, .inr ⟨3, q, HE.out, hqs, rfl⟩⟩
        · have HE := Lib.hid (HR8.trans (congrArg (ofKw q) (if_pos hn0)))
          have HW := Lib.hid (mid_eq s q (q + opF s q 2))
          have hWs : (s.extract q (q + opF s q 2)).size ≤ 2 := by rw [← sb_len, HW.out, midL_len s hol.1]; omega
          have HWs := Lib.hid hWs
          clear hWs HR8
          generalize midL s q (q + opF s q 2) = wd at *
          generalize hJ : q + opF s q 2 = J at *
          have hjb : ((J : Int) == (q : Int)) = false := by rw [beq_eq_false_iff_ne]; omega
          have hj1 : q ≤ J := by omega
          have hj2 : J ≤ s.size := hol.1
          clear hJ hol hn0 HOE HC58
          go_wp2_with (first | (go_at_call 60; refine hopw.mono ?_; rintro e w' ⟨rfl, rfl⟩))
          obtain ⟨g1, g2⟩ := ((HK.out.set (x0 := .int .i64 6) (x1 := .string ⟨#[]⟩) (x2 := .int .i64 0) (x3 := .int .i64 (q : Int)) 0 (.int .i64 6) rfl).set (x0 := .int .i64 6) (x1 := .string (s.extract q J)) (x2 := .int .i64 0) (x3 := .int .i64 (q : Int)) 1 (.string (s.extract q J)) rfl).fin (.int .i64 6) (.string (s.extract q J)) (.int .i64 0) (.int .i64 (q : Int))
          refine bodyPost_ret (v := .tuple #[tokV 6 (s.extract q J) 0 q, .int .i64 (J : Int), .int .i64 0]) (rnext_result g1 rfl rfl rfl) rfl ?_
          exact ⟨g2, .inl ⟨6, wd, 0, q, J, s.extract q J, HE.out, hqs, hj2, HW.out, rfl⟩⟩
      obtain rfl | rfl | rfl | rfl | rfl | rfl | rfl : i = 0 ∨ i = 1 ∨ i = 2 ∨ i = 3 ∨ i = 4 ∨ i = 5 ∨ i = 6 := by omega
      · by_cases hm : s[q].toNat = 94
        · have hb : ((((⟨#[94, 46, 59, 40, 41, 91, 93]⟩ : ByteArray)[0]'(by decide)).toNat : Int) == (s[q].toNat : Int)) = true := by rw [beq_iff_eq]; exact (show (94 : Int) = (s[q].toNat : Int) by omega)
          have h0 : opF s q 2 = 0 := by rw [HOE.out, hm]; rfl
          have HE : Hid (r = .inl (8, [], 0, q, q + 1)) := Lib.hid (by rw [HR7.out, h0, hm]; rfl)
          clear HR7 h0 hm hol hopw HOE HC58 HN hi7
          go_wp2_with fail
          obtain ⟨g1, g2⟩ := (HK.out.set (x0 := .int .i64 8) (x1 := .string ⟨#[]⟩) (x2 := .int .i64 0) (x3 := .int .i64 (q : Int)) 0 (.int .i64 8) rfl).fin (.int .i64 8) (.string ⟨#[]⟩) (.int .i64 0) (.int .i64 (q : Int))
          refine bodyPost_ret (v := .tuple #[tokV 8 ⟨#[]⟩ 0 q, .int .i64 ((q + 1 : Nat) : Int), .int .i64 0]) (rnext_result g1 rfl rfl rfl) rfl ?_
          exact ⟨g2, .inl ⟨8, [], 0, q, q + 1, ⟨#[]⟩, HE.out, hqs, hlt, rfl, rfl⟩⟩
        · have hb : ((((⟨#[94, 46, 59, 40, 41, 91, 93]⟩ : ByteArray)[0]'(by decide)).toNat : Int) == (s[q].toNat : Int)) = false := by rw [beq_eq_false_iff_ne]; exact (show (94 : Int) ≠ (s[q].toNat : Int) by omega)
          have HN2 : Hid (∀ j, j < 1 → (marksL.getD j 0).toNat ≠ s[q].toNat) := Lib.hid (fun j hj => by
            rcases Nat.lt_or_ge j 0 with h | h
            · exact HN.out j h
            · obtain rfl : j = 0 := by omega
              exact fun e => hm e.symm)
          clear HR7 hm hol hopw HOE HC58 HN hi7
          go_wp2_with fail
          go_roundw
          case rel => exact ⟨1, by omega, rfl, HN2, trivial⟩
          case measure => simp [intOf]
      · by_cases hm : s[q].toNat = 46
        · have hb : ((((⟨#[94, 46, 59, 40, 41, 91, 93]⟩ : ByteArray)[1]'(by decide)).toNat : Int) == (s[q].toNat : Int)) = true := by rw [beq_iff_eq]; exact (show (46 : Int) = (s[q].toNat : Int) by omega)
          have h0 : opF s q 2 = 0 := by rw [HOE.out, hm]; rfl
          have HE : Hid (r = .inl (9, [], 0, q, q + 1)) := Lib.hid (by rw [HR7.out, h0, hm]; rfl)
          clear HR7 h0 hm hol hopw HOE HC58 HN hi7
          go_wp2_with fail
          obtain ⟨g1, g2⟩ := (HK.out.set (x0 := .int .i64 9) (x1 := .string ⟨#[]⟩) (x2 := .int .i64 0) (x3 := .int .i64 (q : Int)) 0 (.int .i64 9) rfl).fin (.int .i64 9) (.string ⟨#[]⟩) (.int .i64 0) (.int .i64 (q : Int))
          refine bodyPost_ret (v := .tuple #[tokV 9 ⟨#[]⟩ 0 q, .int .i64 ((q + 1 : Nat) : Int), .int .i64 0]) (rnext_result g1 rfl rfl rfl) rfl ?_
          exact ⟨g2, .inl ⟨9, [], 0, q, q + 1, ⟨#[]⟩, HE.out, hqs, hlt, rfl, rfl⟩⟩
        · have hb : ((((⟨#[94, 46, 59, 40, 41, 91, 93]⟩ : ByteArray)[1]'(by decide)).toNat : Int) == (s[q].toNat : Int)) = false := by rw [beq_eq_false_iff_ne]; exact (show (46 : Int) ≠ (s[q].toNat : Int) by omega)
          have HN2 : Hid (∀ j, j < 2 → (marksL.getD j 0).toNat ≠ s[q].toNat) := Lib.hid (fun j hj => by
            rcases Nat.lt_or_ge j 1 with h | h
            · exact HN.out j h
            · obtain rfl : j = 1 := by omega
              exact fun e => hm e.symm)
          clear HR7 hm hol hopw HOE HC58 HN hi7
          go_wp2_with fail
          go_roundw
          case rel => exact ⟨2, by omega, rfl, HN2, trivial⟩
          case measure => simp [intOf]
      · by_cases hm : s[q].toNat = 59
        · have hb : ((((⟨#[94, 46, 59, 40, 41, 91, 93]⟩ : ByteArray)[2]'(by decide)).toNat : Int) == (s[q].toNat : Int)) = true := by rw [beq_iff_eq]; exact (show (59 : Int) = (s[q].toNat : Int) by omega)
          have h0 : opF s q 2 = 0 := by rw [HOE.out, hm]; rfl
          have HE : Hid (r = .inl (10, [], 0, q, q + 1)) := Lib.hid (by rw [HR7.out, h0, hm]; rfl)
          clear HR7 h0 hm hol hopw HOE HC58 HN hi7
          go_wp2_with fail
          obtain ⟨g1, g2⟩ := (HK.out.set (x0 := .int .i64 10) (x1 := .string ⟨#[]⟩) (x2 := .int .i64 0) (x3 := .int .i64 (q : Int)) 0 (.int .i64 10) rfl).fin (.int .i64 10) (.string ⟨#[]⟩) (.int .i64 0) (.int .i64 (q : Int))
          refine bodyPost_ret (v := .tuple #[tokV 10 ⟨#[]⟩ 0 q, .int .i64 ((q + 1 : Nat) : Int), .int .i64 0]) (rnext_result g1 rfl rfl rfl) rfl ?_
          exact ⟨g2, .inl ⟨10, [], 0, q, q + 1, ⟨#[]⟩, HE.out, hqs, hlt, rfl, rfl⟩⟩
        · have hb : ((((⟨#[94, 46, 59, 40, 41, 91, 93]⟩ : ByteArray)[2]'(by decide)).toNat : Int) == (s[q].toNat : Int)) = false := by rw [beq_eq_false_iff_ne]; exact (show (59 : Int) ≠ (s[q].toNat : Int) by omega)
          have HN2 : Hid (∀ j, j < 3 → (marksL.getD j 0).toNat ≠ s[q].toNat) := Lib.hid (fun j hj => by
            rcases Nat.lt_or_ge j 2 with h | h
            · exact HN.out j h
            · obtain rfl : j = 2 := by omega
              exact fun e => hm e.symm)
          clear HR7 hm hol hopw HOE HC58 HN hi7
          go_wp2_with fail
          go_roundw
          case rel => exact ⟨3, by omega, rfl, HN2, trivial⟩
          case measure => simp [intOf]
      · by_cases hm : s[q].toNat = 40
        · have hb : ((((⟨#[94, 46, 59, 40, 41, 91, 93]⟩ : ByteArray)[3]'(by decide)).toNat : Int) == (s[q].toNat : Int)) = true := by rw [beq_iff_eq]; exact (show (40 : Int) = (s[q].toNat : Int) by omega)
          have h0 : opF s q 2 = 0 := by rw [HOE.out, hm]; rfl
          have HE : Hid (r = .inl (11, [], 0, q, q + 1)) := Lib.hid (by rw [HR7.out, h0, hm]; rfl)
          clear HR7 h0 hm hol hopw HOE HC58 HN hi7
          go_wp2_with fail
          obtain ⟨g1, g2⟩ := (HK.out.set (x0 := .int .i64 11) (x1 := .string ⟨#[]⟩) (x2 := .int .i64 0) (x3 := .int .i64 (q : Int)) 0 (.int .i64 11) rfl).fin (.int .i64 11) (.string ⟨#[]⟩) (.int .i64 0) (.int .i64 (q : Int))
          refine bodyPost_ret (v := .tuple #[tokV 11 ⟨#[]⟩ 0 q, .int .i64 ((q + 1 : Nat) : Int), .int .i64 0]) (rnext_result g1 rfl rfl rfl) rfl ?_
          exact ⟨g2, .inl ⟨11, [], 0, q, q + 1, ⟨#[]⟩, HE.out, hqs, hlt, rfl, rfl⟩⟩
        · have hb : ((((⟨#[94, 46, 59, 40, 41, 91, 93]⟩ : ByteArray)[3]'(by decide)).toNat : Int) == (s[q].toNat : Int)) = false := by rw [beq_eq_false_iff_ne]; exact (show (40 : Int) ≠ (s[q].toNat : Int) by omega)
          have HN2 : Hid (∀ j, j < 4 → (marksL.getD j 0).toNat ≠ s[q].toNat) := Lib.hid (fun j hj => by
            rcases Nat.lt_or_ge j 3 with h | h
            · exact HN.out j h
            · obtain rfl : j = 3 := by omega
              exact fun e => hm e.symm)
          clear HR7 hm hol hopw HOE HC58 HN hi7
          go_wp2_with fail
          go_roundw
          case rel => exact ⟨4, by omega, rfl, HN2, trivial⟩
          case measure => simp [intOf]
      · by_cases hm : s[q].toNat = 41
        · have hb : ((((⟨#[94, 46, 59, 40, 41, 91, 93]⟩ : ByteArray)[4]'(by decide)).toNat : Int) == (s[q].toNat : Int)) = true := by rw [beq_iff_eq]; exact (show (41 : Int) = (s[q].toNat : Int) by omega)
          have h0 : opF s q 2 = 0 := by rw [HOE.out, hm]; rfl
          have HE : Hid (r = .inl (12, [], 0, q, q + 1)) := Lib.hid (by rw [HR7.out, h0, hm]; rfl)
          clear HR7 h0 hm hol hopw HOE HC58 HN hi7
          go_wp2_with fail
          obtain ⟨g1, g2⟩ := (HK.out.set (x0 := .int .i64 12) (x1 := .string ⟨#[]⟩) (x2 := .int .i64 0) (x3 := .int .i64 (q : Int)) 0 (.int .i64 12) rfl).fin (.int .i64 12) (.string ⟨#[]⟩) (.int .i64 0) (.int .i64 (q : Int))
          refine bodyPost_ret (v := .tuple #[tokV 12 ⟨#[]⟩ 0 q, .int .i64 ((q + 1 : Nat) : Int), .int .i64 0]) (rnext_result g1 rfl rfl rfl) rfl ?_
          exact ⟨g2, .inl ⟨12, [], 0, q, q + 1, ⟨#[]⟩, HE.out, hqs, hlt, rfl, rfl⟩⟩
        · have hb : ((((⟨#[94, 46, 59, 40, 41, 91, 93]⟩ : ByteArray)[4]'(by decide)).toNat : Int) == (s[q].toNat : Int)) = false := by rw [beq_eq_false_iff_ne]; exact (show (41 : Int) ≠ (s[q].toNat : Int) by omega)
          have HN2 : Hid (∀ j, j < 5 → (marksL.getD j 0).toNat ≠ s[q].toNat) := Lib.hid (fun j hj => by
            rcases Nat.lt_or_ge j 4 with h | h
            · exact HN.out j h
            · obtain rfl : j = 4 := by omega
              exact fun e => hm e.symm)
          clear HR7 hm hol hopw HOE HC58 HN hi7
          go_wp2_with fail
          go_roundw
          case rel => exact ⟨5, by omega, rfl, HN2, trivial⟩
          case measure => simp [intOf]
      · by_cases hm : s[q].toNat = 91
        · have hb : ((((⟨#[94, 46, 59, 40, 41, 91, 93]⟩ : ByteArray)[5]'(by decide)).toNat : Int) == (s[q].toNat : Int)) = true := by rw [beq_iff_eq]; exact (show (91 : Int) = (s[q].toNat : Int) by omega)
          have h0 : opF s q 2 = 0 := by rw [HOE.out, hm]; rfl
          have HE : Hid (r = .inl (13, [], 0, q, q + 1)) := Lib.hid (by rw [HR7.out, h0, hm]; rfl)
          clear HR7 h0 hm hol hopw HOE HC58 HN hi7
          go_wp2_with fail
          obtain ⟨g1, g2⟩ := (HK.out.set (x0 := .int .i64 13) (x1 := .string ⟨#[]⟩) (x2 := .int .i64 0) (x3 := .int .i64 (q : Int)) 0 (.int .i64 13) rfl).fin (.int .i64 13) (.string ⟨#[]⟩) (.int .i64 0) (.int .i64 (q : Int))
          refine bodyPost_ret (v := .tuple #[tokV 13 ⟨#[]⟩ 0 q, .int .i64 ((q + 1 : Nat) : Int), .int .i64 0]) (rnext_result g1 rfl rfl rfl) rfl ?_
          exact ⟨g2, .inl ⟨13, [], 0, q, q + 1, ⟨#[]⟩, HE.out, hqs, hlt, rfl, rfl⟩⟩
        · have hb : ((((⟨#[94, 46, 59, 40, 41, 91, 93]⟩ : ByteArray)[5]'(by decide)).toNat : Int) == (s[q].toNat : Int)) = false := by rw [beq_eq_false_iff_ne]; exact (show (91 : Int) ≠ (s[q].toNat : Int) by omega)
          have HN2 : Hid (∀ j, j < 6 → (marksL.getD j 0).toNat ≠ s[q].toNat) := Lib.hid (fun j hj => by
            rcases Nat.lt_or_ge j 5 with h | h
            · exact HN.out j h
            · obtain rfl : j = 5 := by omega
              exact fun e => hm e.symm)
          clear HR7 hm hol hopw HOE HC58 HN hi7
          go_wp2_with fail
          go_roundw
          case rel => exact ⟨6, by omega, rfl, HN2, trivial⟩
          case measure => simp [intOf]
      · by_cases hm : s[q].toNat = 93
        · have hb : ((((⟨#[94, 46, 59, 40, 41, 91, 93]⟩ : ByteArray)[6]'(by decide)).toNat : Int) == (s[q].toNat : Int)) = true := by rw [beq_iff_eq]; exact (show (93 : Int) = (s[q].toNat : Int) by omega)
          have h0 : opF s q 2 = 0 := by rw [HOE.out, hm]; rfl
          have HE : Hid (r = .inl (14, [], 0, q, q + 1)) := Lib.hid (by rw [HR7.out, h0, hm]; rfl)
          clear HR7 h0 hm hol hopw HOE HC58 HN hi7
          go_wp2_with fail
          obtain ⟨g1, g2⟩ := (HK.out.set (x0 := .int .i64 14) (x1 := .string ⟨#[]⟩) (x2 := .int .i64 0) (x3 := .int .i64 (q : Int)) 0 (.int .i64 14) rfl).fin (.int .i64 14) (.string ⟨#[]⟩) (.int .i64 0) (.int .i64 (q : Int))
          refine bodyPost_ret (v := .tuple #[tokV 14 ⟨#[]⟩ 0 q, .int .i64 ((q + 1 : Nat) : Int), .int .i64 0]) (rnext_result g1 rfl rfl rfl) rfl ?_
          exact ⟨g2, .inl ⟨14, [], 0, q, q + 1, ⟨#[]⟩, HE.out, hqs, hlt, rfl, rfl⟩⟩
        · have hb : ((((⟨#[94, 46, 59, 40, 41, 91, 93]⟩ : ByteArray)[6]'(by decide)).toNat : Int) == (s[q].toNat : Int)) = false := by rw [beq_eq_false_iff_ne]; exact (show (93 : Int) ≠ (s[q].toNat : Int) by omega)
          have HN2 : Hid (∀ j, j < 7 → (marksL.getD j 0).toNat ≠ s[q].toNat) := Lib.hid (fun j hj => by
            rcases Nat.lt_or_ge j 6 with h | h
            · exact HN.out j h
            · obtain rfl : j = 6 := by omega
              exact fun e => hm e.symm)
          clear HR7 hm hol hopw HOE HC58 HN hi7
          go_wp2_with fail
          go_roundw
          case rel => exact ⟨7, by omega, rfl, HN2, trivial⟩
          case measure => simp [intOf]
end Go.Proofs.YtakijeooaeflkaaGreatDoor.Fl
