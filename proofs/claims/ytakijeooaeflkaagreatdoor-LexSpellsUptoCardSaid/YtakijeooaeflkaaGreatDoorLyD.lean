/-
  The document's lexer: what a # is with.
-/
import Derived.Test.YtakijeooaeflkaaGreatDoorLyB
namespace Go.Proofs.YtakijeooaeflkaaGreatDoor.Fl
open Go.RowKit

/-- what stands while the document's token is made -/
structure RtW (w0 w : World) (C T : Nat) (v0 v1 v2 v3 : Value) : Prop where
  tok : w.heap[T]? = some (.cells #[v0, v1, v2, v3] 25 (0, 0))
  res : w.heap[C]? = some (.cells #[.int .i64 0, .string ⟨#[]⟩, .int .i64 0, .int .i64 0] 25 (0, 0))
  bel : Below w0.heap.size w0 w
  ne : T ≠ C ∧ w0.heap.size ≤ T ∧ w0.heap.size ≤ C
theorem RtW.below {w0 w w' : World} {C T : Nat} {v0 v1 v2 v3 : Value} (h : RtW w0 w C T v0 v1 v2 v3) (hb : Below w.heap.size w w') : RtW w0 w' C T v0 v1 v2 v3 :=
  ⟨(hb.block T (lt_of_blk h.tok)).trans h.tok, (hb.block C (lt_of_blk h.res)).trans h.res, h.bel.trans (hb.mono h.bel.size), h.ne⟩
theorem RtW.set {w0 w : World} {C T : Nat} {v0 v1 v2 v3 x0 x1 x2 x3 : Value} (h : RtW w0 w C T v0 v1 v2 v3) (j : Nat) (x : Value) (hx : (#[v0, v1, v2, v3] : Array Value).setIfInBounds j x = #[x0, x1, x2, x3]) : RtW w0 (w.setCell ⟨T, j, none⟩ x) C T x0 x1 x2 x3 :=
  ⟨by rw [← hx]; exact heap_setCell_same w T j _ _ x h.tok, (Below.heap_setCell w ⟨T, j, none⟩ x C (fun e => h.ne.1 e.symm)).trans h.res, h.bel.setCell (p := ⟨T, j, none⟩) h.ne.2.1 x, h.ne⟩
theorem RtW.make (w : World) (v0 v1 v2 v3 : Value) : RtW w ((w.alloc (.cells #[.int .i64 0, .string ⟨#[]⟩, .int .i64 0, .int .i64 0] 25)).alloc (.cells #[v0, v1, v2, v3] 25)) w.heap.size (w.heap.size + 1) v0 v1 v2 v3 := by
  have h1 := heap_alloc_new w (.cells #[.int .i64 0, .string ⟨#[]⟩, .int .i64 0, .int .i64 0] 25)
  have b1 := (Below.refl w.heap.size w).alloc (Nat.le_refl _) (.cells #[.int .i64 0, .string ⟨#[]⟩, .int .i64 0, .int .i64 0] 25)
  have z1 : (w.alloc (.cells #[.int .i64 0, .string ⟨#[]⟩, .int .i64 0, .int .i64 0] 25)).heap.size = w.heap.size + 1 := World.size_alloc _ _
  generalize w.alloc (.cells #[.int .i64 0, .string ⟨#[]⟩, .int .i64 0, .int .i64 0] 25) = w1 at *
  have h2 := heap_alloc_new w1 (.cells #[v0, v1, v2, v3] 25)
  rw [z1] at h2
  have b2 : Below w1.heap.size w1 (w1.alloc (.cells #[v0, v1, v2, v3] 25)) := (Below.refl _ _).alloc (Nat.le_refl _) _
  exact ⟨h2, (b2.block _ (by omega)).trans h1, b1.trans (b2.mono b1.size), by omega, by omega, Nat.le_refl _⟩
/-- the token is handed back -/
theorem RtW.fin {w0 w : World} {C T : Nat} {v0 v1 v2 v3 : Value} (h : RtW w0 w C T v0 v1 v2 v3) (x0 x1 x2 x3 : Value) :
    ((((w.setCell ⟨C, 0, none⟩ x0).setCell ⟨C, 1, none⟩ x1).setCell ⟨C, 2, none⟩ x2).setCell ⟨C, 3, none⟩ x3).heap[C]? = some (.cells #[x0, x1, x2, x3] 25 (0, 0)) ∧
    Below w0.heap.size w0 ((((w.setCell ⟨C, 0, none⟩ x0).setCell ⟨C, 1, none⟩ x1).setCell ⟨C, 2, none⟩ x2).setCell ⟨C, 3, none⟩ x3) :=
  ⟨set4 h.res _ _ _ _, (((h.bel.setCell (p := ⟨C, 0, none⟩) h.ne.2.2 x0).setCell (p := ⟨C, 1, none⟩) h.ne.2.2 x1).setCell (p := ⟨C, 2, none⟩) h.ne.2.2 x2).setCell (p := ⟨C, 3, none⟩) h.ne.2.2 x3⟩
theorem rsym_result {W : World} {C : Nat} {v0 v1 v2 v3 u v : Value} {a : Array Value} (h : W.heap[C]? = some (.cells #[v0, v1, v2, v3] 25 (0, 0))) (h4 : a[4]?.getD undef = .pointer (some ⟨C, 0, none⟩)) (h5 : a[5]?.getD undef = u) (h6 : a[6]?.getD undef = v) :
    (results Tryz.f67 a).run Tryz.prog W = .ok (.tuple #[.agg #[v0, v1, v2, v3], u, v]) W := by
  obtain ⟨c0, c1, c2, c3, _⟩ := cells4L h
  simp [results, Tryz.results67, go_sem, h4, h5, h6, c0, c1, c2, c3]
/-- how a symbol's word is found -/
theorem sym_letter {s : ByteArray} {q : Nat} (hq : q ≤ s.size) (h : letterN (lookB s q) = true) : joinR s q ≠ q ∧ ((joinW s q ≠ q ∧ joinW s q = joinR s q) ∨ (joinW s q = q ∧ nameN s q = joinR s q)) := by
  have hlt := namedR_lt hq h
  have hle := (namedR_le hq).2
  unfold joinR
  by_cases hk : (namedR s q).1 = 2
  · have hkr : keyR s q = (namedR s q).2 := by rw [keyR_named hq, if_pos ⟨h, hk⟩]
    have hgo := join_go hq (by rw [hkr]; exact hlt)
    have := (joinW_le s (namedR s q).2 hle).1
    rw [hkr] at hgo
    rw [if_pos hk]
    exact ⟨by omega, .inl ⟨by omega, hgo⟩⟩
  · have hkr : keyR s q = q := by rw [keyR_named hq, if_neg (fun h => hk h.2)]
    rw [if_neg hk]
    refine ⟨by omega, .inr ⟨join_no hq (by omega), ?_⟩⟩
    unfold nameN
    rw [if_pos h]
    unfold namedR at hk ⊢
    split
    · next h2 => rw [if_pos h2] at hk; exact absurd rfl hk
    · rfl
theorem sym_other {s : ByteArray} {q : Nat} (hq : q ≤ s.size) (h : ¬ letterN (lookB s q) = true) : joinW s q = q ∧ nameN s q = q := by
  have hkr : keyR s q = q := by rw [keyR_named hq, if_neg (fun h2 => h h2.1)]
  refine ⟨join_no hq (by omega), ?_⟩
  unfold nameN
  rw [if_neg h]
set_option maxRecDepth 100000 in
set_option maxHeartbeats 4000000 in
theorem rsymbol_any (s : ByteArray) (p : Nat) (w : World) (hs : s.size ≤ 16777216) (hp : p < s.size) :
    Calls Tryz.prog 67 #[.string s, .int .i64 (p : Int)] w (NextPost s (ofKw p (hashR s p)) w) := by
  obtain ⟨r, hr⟩ : ∃ r, hashR s p = r := ⟨_, rfl⟩
  rw [hr]
  have HR := Lib.hid hr
  unfold hashR at HR
  clear hr
  have HK := Lib.hid (RtW.make w (.int .i64 5) (.string ⟨#[]⟩) (.int .i64 0) (.int .i64 (p : Int)))
  go_enter Tryz.func67, Tryz.ntmps67
  go_upto_region 4 with fail
  generalize hw2 : (w.alloc (.cells #[.int .i64 0, .string ⟨#[]⟩, .int .i64 0, .int .i64 0] 25)).alloc (.cells #[.int .i64 5, .string ⟨#[]⟩, .int .i64 0, .int .i64 (p : Int)] 25) = w2 at *
  obtain ⟨T, hT⟩ : ∃ T, w.heap.size + 1 = T := ⟨_, rfl⟩
  obtain ⟨f, hf⟩ : ∃ f, p + 1 = f := ⟨_, rfl⟩
  rw [hT] at HK ⊢
  have hfi : (p : Int) + 1 = (f : Int) := by omega
  have hff : p + 2 = f + 1 := by omega
  rw [hff, hf] at HR
  rw [hfi]
  have hfs : f ≤ s.size := by omega
  have HB0 := Lib.hid HK.out.bel
  obtain ⟨C, hC⟩ : ∃ C, w.heap.size = C := ⟨_, rfl⟩
  have HCC := Lib.hid hC
  simp only [hC] at HK ⊢
  have f1 := cells4L HK.out.tok
  have f2 := cells4L HK.out.res
  have l1 := lt_of_blk HK.out.tok
  have l2 := lt_of_blk HK.out.res
  have hne := HK.out.ne.1
  clear hw2 hT hC hfi
  by_cases h40 : lookB s f = 40
  · obtain ⟨hlt, h40'⟩ := lookB_pos h40 (by decide)
    have HE := Lib.hid (HR.out.symm.trans (if_pos h40))
    have e1 : ((s[f].toNat : Int) == 40) = true := by rw [beq_iff_eq]; omega
    clear HR h40 h40'
    go_wp2_with fail
    obtain ⟨g1, g2⟩ := HK.out.fin (.int .i64 15) (.string ⟨#[]⟩) (.int .i64 0) (.int .i64 (p : Int))
    refine bodyPost_ret (v := .tuple #[tokV 15 ⟨#[]⟩ 0 p, .int .i64 ((f + 1 : Nat) : Int), .int .i64 0]) (rsym_result g1 rfl rfl rfl) rfl ?_
    exact ⟨g2, .inl ⟨15, [], 0, p, f + 1, ⟨#[]⟩, by rw [HE.out]; rfl, by omega, by omega, rfl, rfl⟩⟩
  have HR1 := Lib.hid (HR.out.symm.trans (if_neg h40))
  clear HR
  by_cases h39 : lookB s f = 39
  · obtain ⟨hlt, h39'⟩ := lookB_pos h39 (by decide)
    have HR2 := Lib.hid (HR1.out.trans (if_pos h39))
    have e0 : ((s[f].toNat : Int) == 40) = false := by rw [beq_eq_false_iff_ne]; omega
    have e1 : ((s[f].toNat : Int) == 39) = true := by rw [beq_iff_eq]; omega
    have htx := rtext_s s f w2 hs hlt
    rw [txt_quo] at htx
    clear HR1 h39 h39' h40
    generalize quoA (f + 1) ((sb s).drop (f + 1)) = qr at *
    go_wp2_with fail
    refine htx.mono ?_
    rintro e w3 ⟨hb3, (⟨hn, rfl⟩ | ⟨t, q, hn, hq1, hq2, htl, rfl⟩)⟩
    · cases qr with
      | some q => cases hn
      | none =>
      have HK3 := Lib.hid (HK.out.below hb3)
      have HE : Hid (r = .inr 4) := Lib.hid HR2.out
      clear f1 f2 l1 l2 htx hn HR2 HK hb3
      have f1 := cells4L HK3.out.tok
      have f2 := cells4L HK3.out.res
      have l1 := lt_of_blk HK3.out.tok
      have l2 := lt_of_blk HK3.out.res
      go_wp2_with fail
      obtain ⟨g1, g2⟩ := HK3.out.fin (.int .i64 0) (.string ⟨#[]⟩) (.int .i64 0) (.int .i64 0)
      refine bodyPost_ret (v := .tuple #[tokV 0 ⟨#[]⟩ 0 0, .int .i64 (p : Int), .int .i64 4]) (rsym_result g1 rfl rfl rfl) rfl ?_
      exact ⟨g2, .inr ⟨4, p, by rw [HE.out]; rfl, by omega, rfl⟩⟩
    · cases qr with
      | none => cases hn
      | some q' =>
      simp only [Option.map_some, Option.some.injEq, Prod.mk.injEq] at hn
      obtain ⟨hn1, hn2⟩ := hn
      subst hn2
      have HR3 := HR2.out
      simp only [hn1] at HR3
      have HKx := Lib.hid (HK.out.below hb3)
      clear f1 f2 l1 l2 htx hn1 HR2 HK hb3
      have f1 := cells4L HKx.out.tok
      have f2 := cells4L HKx.out.res
      have l1 := lt_of_blk HKx.out.tok
      have l2 := lt_of_blk HKx.out.res
      have htz : (mkB t).size = t.length := mkB_size t
      have hts : (mkB t).size ≤ 16777216 := by omega
      have HW := Lib.hid (show sb (mkB t) = t from sb_mk t)
      rw [← htz] at HR3
      have HRx := Lib.hid HR3
      clear HR3 htz
      generalize mkB t = W at *
      have HK4 := Lib.hid (HKx.out.set (x0 := .int .i64 5) (x1 := .string W) (x2 := .int .i64 0) (x3 := .int .i64 (p : Int)) 1 (.string W) rfl)
      clear HKx
      go_upto_region 20 with fail
      clear f1 f2 l1 l2
      generalize w3.setCell ⟨T, 1, none⟩ (.string W) = w4 at *
      have f1 := cells4L HK4.out.tok
      have f2 := cells4L HK4.out.res
      have l1 := lt_of_blk HK4.out.tok
      have l2 := lt_of_blk HK4.out.res
      by_cases h64 : 64 < (W).size
      · have HE := Lib.hid (HRx.out.trans (if_pos h64))
        go_wp2_with fail
        obtain ⟨g1, g2⟩ := HK4.out.fin (.int .i64 0) (.string ⟨#[]⟩) (.int .i64 0) (.int .i64 0)
        refine bodyPost_ret (v := .tuple #[tokV 0 ⟨#[]⟩ 0 0, .int .i64 (p : Int), .int .i64 2]) (rsym_result g1 rfl rfl rfl) rfl ?_
        exact ⟨g2, .inr ⟨2, p, by rw [HE.out]; rfl, by omega, rfl⟩⟩
      · have HE := Lib.hid (HRx.out.trans (if_neg h64))
        go_wp2_with fail
        obtain ⟨g1, g2⟩ := HK4.out.fin (.int .i64 5) (.string W) (.int .i64 0) (.int .i64 (p : Int))
        refine bodyPost_ret (v := .tuple #[tokV 5 W 0 p, .int .i64 (q' : Int), .int .i64 0]) (rsym_result g1 rfl rfl rfl) rfl ?_
        exact ⟨g2, .inl ⟨5, t, 0, p, q', W, by rw [HE.out]; rfl, by omega, by omega, HW.out, rfl⟩⟩
  have HR2 := Lib.hid (HR1.out.trans (if_neg h39))
  clear HR1
  have hkw := rkeywords_any s f w2 hs hfs
  have hnm := rname_any s f w2 hs hfs
  have hop := roper_any s f w2 hs hfs
  have hjl := joinW_le s f hfs
  have HPre : ∀ c : Int, (c = 40 ∨ c = 39) → ∀ h : f < s.size, ((s[f].toNat : Int) == c) = false := fun c hc h => by
    rw [lookB_at h] at h40 h39
    rw [beq_eq_false_iff_ne]
    omega
  have HP0 := Lib.hid HPre
  clear HPre h40 h39
  by_cases hlt : f < s.size
  case neg =>
    have e : f = s.size := by omega
    have hz := lookB_no (s := s) (p := f) (by omega)
    have hso := sym_other hfs (by rw [hz]; decide)
    have h0 : opF s f 2 = 0 := by rw [opF_eq s f hfs, hz]; rfl
    have HE : Hid (r = .inr 3) := Lib.hid (by rw [HR2.out, hz, if_neg (by decide), if_pos h0])
    rw [hso.1] at hkw
    rw [hso.2] at hnm
    rw [h0, Nat.add_zero] at hop
    have hlt' : ¬ ((f : Int) < (s.size : Int)) := by omega
    clear HR2 hz hso h0 HP0 hjl e
    go_upto_region 13 with (first | (go_at_call 58; refine hkw.mono ?_; rintro e w' ⟨rfl, rfl⟩))
    clear hkw
    go_upto_region 15 with (first | (go_at_call 59; refine hnm.mono ?_; rintro e w' ⟨rfl, rfl⟩))
    clear hnm
    go_upto_region 17 with (first | (go_at_call 60; refine hop.mono ?_; rintro e w' ⟨rfl, rfl⟩))
    clear hop
    go_wp2_with fail
    obtain ⟨g1, g2⟩ := HK.out.fin (.int .i64 0) (.string ⟨#[]⟩) (.int .i64 0) (.int .i64 0)
    refine bodyPost_ret (v := .tuple #[tokV 0 ⟨#[]⟩ 0 0, .int .i64 (p : Int), .int .i64 3]) (rsym_result g1 rfl rfl rfl) rfl ?_
    exact ⟨g2, .inr ⟨3, p, by rw [HE.out]; rfl, by omega, rfl⟩⟩
  have e0 := HP0.out 40 (.inl rfl) hlt
  have e1 := HP0.out 39 (.inr rfl) hlt
  clear HP0
  by_cases hl : letterN (lookB s f) = true
  · have HR3 := HR2.out.trans (if_pos hl)
    obtain ⟨hjr, hjj⟩ := sym_letter hfs hl
    have hjrl := joinR_le hfs
    have HW := Lib.hid (mid_eq s f (joinR s f))
    have hWz : (s.extract f (joinR s f)).size = (midL s f (joinR s f)).length := by rw [← HW.out, sb_len]
    have hWs : (s.extract f (joinR s f)).size ≤ 16777216 := by rw [hWz, midL_len s hjrl.2]; omega
    rw [← hWz] at HR3
    have HRx := Lib.hid HR3
    have HWs := Lib.hid hWs
    have HKx := Lib.hid HK.out
    clear HR2 hop HR3 hWz hWs HK
    generalize midL s f (joinR s f) = wd at *
    rcases hjj with ⟨hj1, hj2⟩ | ⟨hj1, hj2⟩
    · rw [hj2] at hkw
      clear hj1 hj2 hjl hnm
      generalize joinR s f = J at *
      have hjb : ((J : Int) == (f : Int)) = false := by rw [beq_eq_false_iff_ne]; omega
      obtain ⟨hj1, hj2⟩ := hjrl
      go_upto_region 13 with (first | (go_at_call 58; refine hkw.mono ?_; rintro e w' ⟨rfl, rfl⟩))
      clear hkw
      go_upto_region 19 with fail
      have HK4 := Lib.hid (HKx.out.set (x0 := .int .i64 5) (x1 := .string (s.extract f J)) (x2 := .int .i64 0) (x3 := .int .i64 (p : Int)) 1 (.string (s.extract f J)) rfl)
      clear HKx
      go_upto_region 20 with fail
      clear f1 f2 l1 l2
      generalize w2.setCell ⟨T, 1, none⟩ (.string (s.extract f J)) = w4 at *
      generalize (s.extract f J) = W at *
      have f1 := cells4L HK4.out.tok
      have f2 := cells4L HK4.out.res
      have l1 := lt_of_blk HK4.out.tok
      have l2 := lt_of_blk HK4.out.res
      by_cases h64 : 64 < (W).size
      · have HE := Lib.hid (HRx.out.trans (if_pos h64))
        go_wp2_with fail
        obtain ⟨g1, g2⟩ := HK4.out.fin (.int .i64 0) (.string ⟨#[]⟩) (.int .i64 0) (.int .i64 0)
        refine bodyPost_ret (v := .tuple #[tokV 0 ⟨#[]⟩ 0 0, .int .i64 (p : Int), .int .i64 2]) (rsym_result g1 rfl rfl rfl) rfl ?_
        exact ⟨g2, .inr ⟨2, p, by rw [HE.out]; rfl, by omega, rfl⟩⟩
      · have HE := Lib.hid (HRx.out.trans (if_neg h64))
        go_wp2_with fail
        obtain ⟨g1, g2⟩ := HK4.out.fin (.int .i64 5) (.string W) (.int .i64 0) (.int .i64 (p : Int))
        refine bodyPost_ret (v := .tuple #[tokV 5 W 0 p, .int .i64 (J : Int), .int .i64 0]) (rsym_result g1 rfl rfl rfl) rfl ?_
        exact ⟨g2, .inl ⟨5, wd, 0, p, J, W, by rw [HE.out]; rfl, by omega, by omega, HW.out, rfl⟩⟩
    · rw [hj1] at hkw
      rw [hj2] at hnm
      clear hj1 hj2 hjl
      generalize joinR s f = J at *
      have hjb : ((J : Int) == (f : Int)) = false := by rw [beq_eq_false_iff_ne]; omega
      obtain ⟨hj1, hj2⟩ := hjrl
      go_upto_region 13 with (first | (go_at_call 58; refine hkw.mono ?_; rintro e w' ⟨rfl, rfl⟩))
      clear hkw
      go_upto_region 15 with (first | (go_at_call 59; refine hnm.mono ?_; rintro e w' ⟨rfl, rfl⟩))
      clear hnm
      go_upto_region 19 with fail
      have HK4 := Lib.hid (HKx.out.set (x0 := .int .i64 5) (x1 := .string (s.extract f J)) (x2 := .int .i64 0) (x3 := .int .i64 (p : Int)) 1 (.string (s.extract f J)) rfl)
      clear HKx
      go_upto_region 20 with fail
      clear f1 f2 l1 l2
      generalize w2.setCell ⟨T, 1, none⟩ (.string (s.extract f J)) = w4 at *
      generalize (s.extract f J) = W at *
      have f1 := cells4L HK4.out.tok
      have f2 := cells4L HK4.out.res
      have l1 := lt_of_blk HK4.out.tok
      have l2 := lt_of_blk HK4.out.res
      by_cases h64 : 64 < (W).size
      · have HE := Lib.hid (HRx.out.trans (if_pos h64))
        go_wp2_with fail
        obtain ⟨g1, g2⟩ := HK4.out.fin (.int .i64 0) (.string ⟨#[]⟩) (.int .i64 0) (.int .i64 0)
        refine bodyPost_ret (v := .tuple #[tokV 0 ⟨#[]⟩ 0 0, .int .i64 (p : Int), .int .i64 2]) (rsym_result g1 rfl rfl rfl) rfl ?_
        exact ⟨g2, .inr ⟨2, p, by rw [HE.out]; rfl, by omega, rfl⟩⟩
      · have HE := Lib.hid (HRx.out.trans (if_neg h64))
        go_wp2_with fail
        obtain ⟨g1, g2⟩ := HK4.out.fin (.int .i64 5) (.string W) (.int .i64 0) (.int .i64 (p : Int))
        refine bodyPost_ret (v := .tuple #[tokV 5 W 0 p, .int .i64 (J : Int), .int .i64 0]) (rsym_result g1 rfl rfl rfl) rfl ?_
        exact ⟨g2, .inl ⟨5, wd, 0, p, J, W, by rw [HE.out]; rfl, by omega, by omega, HW.out, rfl⟩⟩
  · obtain ⟨hj1, hj2⟩ := sym_other hfs hl
    rw [hj1] at hkw
    rw [hj2] at hnm
    have hol := opF_le s f hfs 2
    have HR3 := HR2.out.trans (if_neg hl)
    clear hj1 hj2 hjl HR2
    by_cases hn0 : opF s f 2 = 0
    · have HE := Lib.hid (HR3.trans (if_pos hn0))
      rw [hn0, Nat.add_zero] at hop
      clear HR3 hn0 hol
      go_upto_region 13 with (first | (go_at_call 58; refine hkw.mono ?_; rintro e w' ⟨rfl, rfl⟩))
      clear hkw
      go_upto_region 15 with (first | (go_at_call 59; refine hnm.mono ?_; rintro e w' ⟨rfl, rfl⟩))
      clear hnm
      go_upto_region 17 with (first | (go_at_call 60; refine hop.mono ?_; rintro e w' ⟨rfl, rfl⟩))
      clear hop
      go_wp2_with fail
      obtain ⟨g1, g2⟩ := HK.out.fin (.int .i64 0) (.string ⟨#[]⟩) (.int .i64 0) (.int .i64 0)
      refine bodyPost_ret (v := .tuple #[tokV 0 ⟨#[]⟩ 0 0, .int .i64 (p : Int), .int .i64 3]) (rsym_result g1 rfl rfl rfl) rfl ?_
      exact ⟨g2, .inr ⟨3, p, by rw [HE.out]; rfl, by omega, rfl⟩⟩
    · have HR4 := HR3.trans (if_neg hn0)
      have HW := Lib.hid (mid_eq s f (f + opF s f 2))
      have hWz : (s.extract f (f + opF s f 2)).size = (midL s f (f + opF s f 2)).length := by rw [← HW.out, sb_len]
      have hWs : (s.extract f (f + opF s f 2)).size ≤ 2 := by rw [hWz, midL_len s hol.1]; omega
      have HWs := Lib.hid (show (s.extract f (f + opF s f 2)).size ≤ 16777216 by omega)
      have HRx := Lib.hid (show r = if 64 < (s.extract f (f + opF s f 2)).size then .inr 2 else .inl (5, midL s f (f + opF s f 2), f + opF s f 2) by rw [HR4, if_neg (by omega)])
      have HKx := Lib.hid HK.out
      clear HR3 HR4 hWz hWs HK
      generalize midL s f (f + opF s f 2) = wd at *
      generalize hJ : f + opF s f 2 = J at *
      have hjb : ((J : Int) == (f : Int)) = false := by rw [beq_eq_false_iff_ne]; omega
      have hj1 : f ≤ J := by omega
      have hj2 : J ≤ s.size := hol.1
      have hjr : J ≠ f := by omega
      clear hJ hol hn0
      go_upto_region 13 with (first | (go_at_call 58; refine hkw.mono ?_; rintro e w' ⟨rfl, rfl⟩))
      clear hkw
      go_upto_region 15 with (first | (go_at_call 59; refine hnm.mono ?_; rintro e w' ⟨rfl, rfl⟩))
      clear hnm
      go_upto_region 17 with (first | (go_at_call 60; refine hop.mono ?_; rintro e w' ⟨rfl, rfl⟩))
      clear hop
      go_upto_region 19 with fail
      have HK4 := Lib.hid (HKx.out.set (x0 := .int .i64 5) (x1 := .string (s.extract f J)) (x2 := .int .i64 0) (x3 := .int .i64 (p : Int)) 1 (.string (s.extract f J)) rfl)
      clear HKx
      go_upto_region 20 with fail
      clear f1 f2 l1 l2
      generalize w2.setCell ⟨T, 1, none⟩ (.string (s.extract f J)) = w4 at *
      generalize (s.extract f J) = W at *
      have f1 := cells4L HK4.out.tok
      have f2 := cells4L HK4.out.res
      have l1 := lt_of_blk HK4.out.tok
      have l2 := lt_of_blk HK4.out.res
      by_cases h64 : 64 < (W).size
      · have HE := Lib.hid (HRx.out.trans (if_pos h64))
        go_wp2_with fail
        obtain ⟨g1, g2⟩ := HK4.out.fin (.int .i64 0) (.string ⟨#[]⟩) (.int .i64 0) (.int .i64 0)
        refine bodyPost_ret (v := .tuple #[tokV 0 ⟨#[]⟩ 0 0, .int .i64 (p : Int), .int .i64 2]) (rsym_result g1 rfl rfl rfl) rfl ?_
        exact ⟨g2, .inr ⟨2, p, by rw [HE.out]; rfl, by omega, rfl⟩⟩
      · have HE := Lib.hid (HRx.out.trans (if_neg h64))
        go_wp2_with fail
        obtain ⟨g1, g2⟩ := HK4.out.fin (.int .i64 5) (.string W) (.int .i64 0) (.int .i64 (p : Int))
        refine bodyPost_ret (v := .tuple #[tokV 5 W 0 p, .int .i64 (J : Int), .int .i64 0]) (rsym_result g1 rfl rfl rfl) rfl ?_
        exact ⟨g2, .inl ⟨5, wd, 0, p, J, W, by rw [HE.out]; rfl, by omega, by omega, HW.out, rfl⟩⟩
end Go.Proofs.YtakijeooaeflkaaGreatDoor.Fl
