/-
  ChunkJoins: the walk.
-/
import Derived.Test.YtponopcnndkalaaGreatDoorClD
namespace Go.Proofs.YtponopcnndkalaaGreatDoor.Fl
open Go.RowKit Go.Shelf

set_option maxRecDepth 100000 in
set_option maxHeartbeats 8000000 in
theorem walk_ChunkJoins (a b : ByteArray) (w : World) (_ : a.size ≤ maxLen) (_ : b.size ≤ maxLen) (henv : EnvL w) (hm : MaxAt w) :
    Calls Tryz.prog 6 #[.string a, .string b] w fun e w' => e = .returned (.bool true) ∧ Below w.heap.size w w' := by
  have hE : ∀ w', Below w.heap.size w w' → EnvL w' := fun w' hb => henv.below hb
  have haw := awakeK_any w hm hE
  obtain ⟨s, hsd⟩ : ∃ s, (if 5000 < a.size then a.extract 0 5000 else a) = s := ⟨_, rfl⟩
  obtain ⟨t, htd⟩ : ∃ t, (if 5000 < b.size then b.extract 0 5000 else b) = t := ⟨_, rfl⟩
  have hs : s.size ≤ 5000 := by
    rw [← hsd]
    split
    · simp; omega
    · omega
  have ht : t.size ≤ 5000 := by
    rw [← htd]
    split
    · simp; omega
    · omega
  have HK : Hid (∀ (x : ByteArray) w', x.size ≤ 65536 → Below w.heap.size w w' → Calls Tryz.prog 8 #[.string x] w' (AnsPost (readT x) w')) := Lib.hid (fun x w' hx hb => readK_ans x w' (by omega) (maxAt_low hm hb) (fun w2 hb2 => hE w2 (hb.trans (hb2.mono hb.size))))
  clear henv hm hE
  go_enter Tryz.func6, Tryz.ntmps6
  go_wp2_with fail
  refine haw.mono ?_
  rintro e w1 ⟨rfl, hb1⟩
  have HB1 := Lib.hid hb1
  clear haw hb1
  go_upto_region 3 with fail
  go_upto_if 19 with fail
  go_cut [0] from 20 (fun v wx => v = .string s ∧ w1 = wx)
  case first =>
    by_cases hbig : 5000 < a.size
    · have hd : decide ((5000 : Int) < (a.size : Int)) = true := by rw [decide_eq_true_eq]; omega
      have hq : (5000 : Int) ≤ (a.size : Int) := by omega
      rw [if_pos hbig] at hsd
      go_wp2_with fail
      go_meet
      exact ⟨by rw [← hsd], rfl⟩
    · have hd : decide ((5000 : Int) < (a.size : Int)) = false := by rw [decide_eq_false_iff_not]; omega
      rw [if_neg hbig] at hsd
      go_wp2_with fail
      go_meet
      exact ⟨by rw [← hsd], rfl⟩
  case rest =>
  obtain ⟨rfl, rfl⟩ := hcut
  clear hsd
  go_upto_if 24 with fail
  go_cut [1] from 25 (fun v wx => v = .string t ∧ w1 = wx)
  case first =>
    by_cases hbig : 5000 < b.size
    · have hd : decide ((5000 : Int) < (b.size : Int)) = true := by rw [decide_eq_true_eq]; omega
      have hq : (5000 : Int) ≤ (b.size : Int) := by omega
      rw [if_pos hbig] at htd
      go_wp2_with fail
      go_meet
      exact ⟨by rw [← htd], rfl⟩
    · have hd : decide ((5000 : Int) < (b.size : Int)) = false := by rw [decide_eq_false_iff_not]; omega
      rw [if_neg hbig] at htd
      go_wp2_with fail
      go_meet
      exact ⟨by rw [← htd], rfl⟩
  case rest =>
  obtain ⟨rfl, rfl⟩ := hcut
  clear htd
  have hk1 := HK.out s w1 (by omega) HB1.out
  go_wp2_with fail
  refine hk1.mono ?_
  rintro e w2 ⟨hb2, fs, v0, v1, hfs, hun, rfl⟩
  have hun2 := hun
  obtain ⟨⟨A1, c1, rfl, -, -⟩, ⟨A2, c2, rfl, -, -⟩, -⟩ := hun2
  obtain ⟨W2, hW2⟩ : ∃ W2, w2.alloc (.cells #[.slice A1 fs.length c1, .slice A2 (unitS (readT s)).length c2] 26) = W2 := ⟨_, rfl⟩
  have hq2 : W2.heap[w2.heap.size]? = some (.cells #[.slice A1 fs.length c1, .slice A2 (unitS (readT s)).length c2] 26 (0, 0)) := by rw [← hW2]; exact heap_alloc_new _ _
  have hbW : Below w2.heap.size w2 W2 := by rw [← hW2]; exact (Below.refl _ _).alloc (Nat.le_refl _) _
  have HBW2 := Lib.hid (HB1.out.trans ((hb2.trans (hbW.mono hb2.size)).mono HB1.out.size))
  have HU2 := Lib.hid (hun.up2 hbW)
  have HF2 := Lib.hid hfs
  have HQ2 := Lib.hid hq2
  have HK2 := Lib.hid (HK.out t W2 (by omega) HBW2.out)
  obtain ⟨P2, hP2⟩ : ∃ P2, w2.heap.size = P2 := ⟨_, rfl⟩
  clear hk1 hun hb2 hbW hq2 hfs
  go_upto_region 8 with fail
  simp only [hP2] at HQ2 ⊢
  clear hP2 hW2
  have hk2 := HK2.out
  go_wp2_with fail
  refine hk2.mono ?_
  rintro e w3 ⟨hb3, gs, u0, u1, hgs, hun, rfl⟩
  have hun2 := hun
  obtain ⟨⟨A3, c3, rfl, -, -⟩, ⟨A4, c4, rfl, -, -⟩, -⟩ := hun2
  obtain ⟨W3, hW3⟩ : ∃ W3, w3.alloc (.cells #[.slice A3 gs.length c3, .slice A4 (unitS (readT t)).length c4] 26) = W3 := ⟨_, rfl⟩
  have hq3 : W3.heap[w3.heap.size]? = some (.cells #[.slice A3 gs.length c3, .slice A4 (unitS (readT t)).length c4] 26 (0, 0)) := by rw [← hW3]; exact heap_alloc_new _ _
  have hbW : Below w3.heap.size w3 W3 := by rw [← hW3]; exact (Below.refl _ _).alloc (Nat.le_refl _) _
  have hb23 : Below W2.heap.size W2 W3 := hb3.trans (hbW.mono hb3.size)
  have HBW3 := Lib.hid (HBW2.out.trans (hb23.mono HBW2.out.size))
  have HU3 := Lib.hid (HU2.out.up2 hb23)
  have HV3 := Lib.hid (hun.up2 hbW)
  have HG3 := Lib.hid hgs
  have HQ3 := Lib.hid (And.intro ((hb23.block _ (lt_of_blk HQ2.out)).trans HQ2.out) hq3)
  obtain ⟨P3, hP3⟩ : ∃ P3, w3.heap.size = P3 := ⟨_, rfl⟩
  clear hk2 HK2 hun hb3 hbW hq3 hgs HU2 HQ2 hb23
  go_upto_region 9 with fail
  simp only [hP3] at HQ3 ⊢
  clear hP3 hW3
  cases hz : (unitE (readT s) != 0)
  case true =>
    go_wp2_with fail
    go_ret
    exact ⟨rfl, HBW3.out⟩
  have hok := readT_ok (s := s) (by simpa using hz)
  obtain ⟨s2, h2⟩ : ∃ s2, (if (sb s).getLast? = some 33 then s ++ ⟨#[32]⟩ else s) = s2 := ⟨_, rfl⟩
  have HJ : Hid (readT (s2 ++ t) = preU (unitC (readT s)) (unitS (readT s)) (shU s2.size (readT t)) ∧ s2.size ≤ 5001) := Lib.hid (by
    have hap : ∀ x y : ByteArray, sb (x ++ y) = sb x ++ sb y := fun x y => by simp [sb]
    have hnil : ∀ (h : (sb s).getLast? ≠ some 33), (sb s).getLast? = some 33 → ([] ++ sb t).head? ≠ some 33 := fun h e => absurd e h
    rw [← h2]
    split
    · have e1 : (s ++ (⟨#[32]⟩ : ByteArray)).size = s.size + 1 := by rw [ByteArray.size_append]; rfl
      rw [e1]
      exact ⟨readT_join [32] (.inr rfl) (by rw [hap, hap, List.append_assoc]; try rfl) (fun _ => by simp) (by rw [ByteArray.size_append, e1]; omega) hok, by omega⟩
    · next h =>
      exact ⟨readT_join [] (.inl rfl) (by rw [hap]; rfl) (hnil h) (by rw [ByteArray.size_append]; omega) hok, by omega⟩)
  have H2 := Lib.hid h2
  clear hok h2
  go_upto_region 11 with fail
  go_cut [51] from 39 (fun v wx => v = .bool (decide ((sb s).getLast? = some 33)) ∧ W3 = wx)
  case first =>
    by_cases h0 : 0 < s.size
    · have hq : (0 : Int) < (s.size : Int) := by omega
      have hw : ((s.size : Int) - 1) = ((s.size - 1 : Nat) : Int) := by omega
      have hw2 : IntKind.i64.wrap ((s.size : Int) - 1) = ((s.size - 1 : Nat) : Int) := by rw [IntKind.wrap_i64]; omega
      have hlt : s.size - 1 < s.size := by omega
      go_wp2_with fail
      go_meet
      have hgl : (sb s).getLast? = some (s[s.size - 1]'hlt) := by
        rw [List.getLast?_eq_getElem?, sb_len, List.getElem?_eq_getElem (by rw [sb_len]; exact hlt)]; rfl
      refine ⟨?_, rfl⟩
      rw [hgl]
      congr 1
      generalize s[s.size - 1]'hlt = x
      rw [Bool.eq_iff_iff, beq_iff_eq, decide_eq_true_eq]
      constructor
      · intro h
        have : x.toNat = 33 := by omega
        rw [show x = 33 from UInt8.toNat_inj.1 this]
      · intro h
        injection h with h
        rw [h]; rfl
    · have hq : ¬ ((0 : Int) < (s.size : Int)) := by omega
      have hn : (sb s).getLast? ≠ some 33 := by
        have : sb s = [] := List.eq_nil_of_length_eq_zero (by rw [sb_len]; omega)
        rw [this]; simp
      have hd : decide ((sb s).getLast? = some 33) = false := decide_eq_false hn
      go_wp2_with fail
      go_meet
      exact ⟨by rw [hd], rfl⟩
  case rest =>
  obtain ⟨rfl, rfl⟩ := hcut
  obtain ⟨c33, hc33⟩ : ∃ c, decide ((sb s).getLast? = some 33) = c := ⟨_, rfl⟩
  rw [hc33]
  have HC33 := Lib.hid hc33
  clear hc33
  go_upto_if 51 with fail
  go_cut [0] from 52 (fun v wx => v = .string s2 ∧ W3 = wx)
  case first =>
    have h2 := H2.out
    have h3 := HC33.out
    cases c33 with
    | true =>
      rw [if_pos (of_decide_eq_true h3)] at h2
      clear h3 H2 HC33
      go_wp2_with fail
      go_meet
      exact ⟨by rw [← h2], rfl⟩
    | false =>
      rw [if_neg (of_decide_eq_false h3)] at h2
      subst h2
      clear h3 H2 HC33
      go_wp2_with fail
      go_meet
      exact ⟨rfl, rfl⟩
  case rest =>
  obtain ⟨rfl, rfl⟩ := hcut
  clear H2 HC33
  have hk3 := HK.out (s2 ++ t) W3 (by have := HJ.out.2; rw [ByteArray.size_append]; omega) HBW3.out
  rw [HJ.out.1] at hk3
  obtain ⟨rz, hrz⟩ : ∃ rz, preU (unitC (readT s)) (unitS (readT s)) (shU s2.size (readT t)) = rz := ⟨_, rfl⟩
  rw [hrz] at hk3
  have HRZ := Lib.hid (And.intro hrz HJ.out.2)
  have hl3 := readT_len (s2 ++ t)
  rw [HJ.out.1, hrz] at hl3
  have HL3 := Lib.hid hl3
  clear hl3
  have HK3 := Lib.hid hk3
  have hcat : s2.size + t.size ≤ 9223372036854775807 := by have := HJ.out.2; omega
  clear hrz hk3 HJ HK
  go_upto_region 13 with fail
  have hk3 := HK3.out
  go_wp2_with fail
  refine hk3.mono ?_
  rintro e w4 ⟨hb4, ks, z0, z1, hks, hun, rfl⟩
  have hun2 := hun
  obtain ⟨⟨A5, c5, rfl, -, -⟩, ⟨A6, c6, rfl, -, -⟩, -⟩ := hun2
  obtain ⟨W4, hW4⟩ : ∃ W4, w4.alloc (.cells #[.slice A5 ks.length c5, .slice A6 (unitS rz).length c6] 26) = W4 := ⟨_, rfl⟩
  have hq4 : W4.heap[w4.heap.size]? = some (.cells #[.slice A5 ks.length c5, .slice A6 (unitS rz).length c6] 26 (0, 0)) := by rw [← hW4]; exact heap_alloc_new _ _
  have hbW : Below w4.heap.size w4 W4 := by rw [← hW4]; exact (Below.refl _ _).alloc (Nat.le_refl _) _
  have hb34 : Below W3.heap.size W3 W4 := hb4.trans (hbW.mono hb4.size)
  have HBW4 := Lib.hid (HBW3.out.trans (hb34.mono HBW3.out.size))
  have HU4 := Lib.hid (HU3.out.up2 hb34)
  have HV4 := Lib.hid (HV3.out.up2 hb34)
  have HX4 := Lib.hid (hun.up2 hbW)
  have HM4 := Lib.hid hks
  have HQ4 := Lib.hid (And.intro ((hb34.block _ (lt_of_blk HQ3.out.1)).trans HQ3.out.1) (And.intro ((hb34.block _ (lt_of_blk HQ3.out.2)).trans HQ3.out.2) hq4))
  obtain ⟨P4, hP4⟩ : ∃ P4, w4.heap.size = P4 := ⟨_, rfl⟩
  clear hk3 HK3 hun hb4 hbW hq4 hks HU3 HV3 HQ3 hb34 HBW3 HBW2
  go_upto_region 14 with fail
  simp only [hP4] at HQ4 ⊢
  clear hP4 hW4
  cases hz2 : (unitE (readT t) != 0)
  case true =>
    have hpt := readT_at t
    have g0 : unitE rz = unitE (readT t) := by rw [← HRZ.out.1]; exact unitE_pre _ _ _ _
    have g2 : unitP rz = (s2.size : Int) + unitP (readT t) := by rw [← HRZ.out.1]; exact unitP_pre _ _ _ _ (by simpa using hz2)
    have g1 : (unitE rz == unitE (readT t)) = true := by rw [g0]; simp
    have hs2 := HRZ.out.2
    have hwr : IntKind.i64.wrap ((s2.size : Int) + unitP (readT t)) = unitP rz := by rw [IntKind.wrap_i64, g2]; omega
    have g3 : (unitP rz == unitP rz) = true := by simp
    clear g0 g2
    go_wp2_with fail
    go_ret
    exact ⟨rfl, HBW4.out⟩
  have HL1 := Lib.hid (readT_len s)
  have HL2 := Lib.hid (readT_len t)
  have hl1 : fs.length = (unitC (readT s)).length := by rw [← HF2.out, List.length_map]
  have hl2 : gs.length = (unitC (readT t)).length := by rw [← HG3.out, List.length_map]
  have HTx : Hid (∀ w', Below W4.heap.size W4 w' → Calls Tryz.prog 10 #[.agg #[(.slice A1 fs.length c1), (.slice A2 (unitS (readT s)).length c2)]] w' (ToldPost w' fs (unitS (readT s)))) := Lib.hid (fun w' hb => told_any w' _ _ fs (unitS (readT s)) (HU4.out.up2 hb) (by have := HL1.out.1; omega) (fun x hx => by have := HL1.out.2 x.1 (by rw [← HF2.out]; exact List.mem_map_of_mem hx); omega))
  have HTy : Hid (∀ w', Below W4.heap.size W4 w' → Calls Tryz.prog 10 #[.agg #[(.slice A3 gs.length c3), (.slice A4 (unitS (readT t)).length c4)]] w' (ToldPost w' gs (unitS (readT t)))) := Lib.hid (fun w' hb => told_any w' _ _ gs (unitS (readT t)) (HV4.out.up2 hb) (by have := HL2.out.1; omega) (fun x hx => by have := HL2.out.2 x.1 (by rw [← HG3.out]; exact List.mem_map_of_mem hx); omega))
  have HS : Hid (∀ w', Below W4.heap.size W4 w' → (fun w' : World => w'.cell? ⟨P2, 0, none⟩ = some (.slice A1 fs.length c1) ∧ w'.cell? ⟨P2, 1, none⟩ = some (.slice A2 (unitS (readT s)).length c2) ∧ w'.cell? ⟨P3, 0, none⟩ = some (.slice A3 gs.length c3) ∧ w'.cell? ⟨P3, 1, none⟩ = some (.slice A4 (unitS (readT t)).length c4)) w') := Lib.hid (fun w' hb => by
    have f2 := cells2V ((hb.block _ (lt_of_blk HQ4.out.1)).trans HQ4.out.1)
    have f3 := cells2V ((hb.block _ (lt_of_blk HQ4.out.2.1)).trans HQ4.out.2.1)
    exact ⟨f2.1, f2.2.1, f3.1, f3.2.1⟩)
  have hb1 : fs.length ≤ 65537 := by have := HL1.out.1; omega
  have hb2 : gs.length ≤ 65537 := by have := HL2.out.1; omega
  have hb3 : (unitS (readT s)).length ≤ 65537 := by have := HL1.out.1; omega
  have hb4 : (unitS (readT t)).length ≤ 65537 := by have := HL2.out.1; omega
  clear hl1 hl2
  go_upto_region 16 with fail
  go_cut [14] from 75 (fun v wx => ∃ (G : Nat) (ts : List (Cls × Value)) (xs : List Src) (A7 : Option Addr) (c7 : Nat) (A8 : Option Addr) (c8 : Nat), v = .pointer (some ⟨G, 0, none⟩) ∧ Hid (Below W4.heap.size W4 wx) ∧ Hid (UnAt wx wx.heap.size (.slice A7 ts.length c7) (.slice A8 xs.length c8) ts xs) ∧ Hid (ts.map (fun x => x.1) = (fs ++ gs).map (fun x => x.1) ∧ xs = unitS (readT s) ++ unitS (readT t)) ∧ Hid (wx.heap[G]? = some (.cells #[.slice A7 ts.length c7, .slice A8 xs.length c8] 33 (0, 0))))
  case first =>
    have HB_wc0 := Lib.hid (show Below W4.heap.size W4 W4.drew from (Below.refl _ _).drew)
    have hS : (fun w' : World => w'.cell? ⟨P2, 0, none⟩ = some (.slice A1 fs.length c1) ∧ w'.cell? ⟨P2, 1, none⟩ = some (.slice A2 (unitS (readT s)).length c2) ∧ w'.cell? ⟨P3, 0, none⟩ = some (.slice A3 gs.length c3) ∧ w'.cell? ⟨P3, 1, none⟩ = some (.slice A4 (unitS (readT t)).length c4)) W4.drew := HS.out _ HB_wc0.out
    obtain ⟨wc0, hwc0⟩ : ∃ x, W4.drew = x := ⟨_, rfl⟩
    have hfd0 : ∀ (A : Option Addr) (n c : Nat) (B : Option Addr) (m d : Nat) (w : World), (Instr.field 33 (.agg #[.slice A n c, .slice B m d]) 0).run Tryz.prog w = .ok (.slice A n c) w := fun _ _ _ _ _ _ _ => by kernel_rfl
    have hfd1 : ∀ (A : Option Addr) (n c : Nat) (B : Option Addr) (m d : Nat) (w : World), (Instr.field 33 (.agg #[.slice A n c, .slice B m d]) 1).run Tryz.prog w = .ok (.slice B m d) w := fun _ _ _ _ _ _ _ => by kernel_rfl
    refine wp_region_noPanic ?_
    refine wp_region_held_drew (S := (fun w' : World => w'.cell? ⟨P2, 0, none⟩ = some (.slice A1 fs.length c1) ∧ w'.cell? ⟨P2, 1, none⟩ = some (.slice A2 (unitS (readT s)).length c2) ∧ w'.cell? ⟨P3, 0, none⟩ = some (.slice A3 gs.length c3) ∧ w'.cell? ⟨P3, 1, none⟩ = some (.slice A4 (unitS (readT t)).length c4))) (by kernel_rfl) hS (fun hHeld => ?_)
    rw [hwc0] at HB_wc0 hHeld ⊢
    clear hS hwc0
    refine wpAnyH_take (i := 0) (v := ?_) (by first | (simp only [List.getElem?_toArray, List.getElem?_cons_succ, List.getElem?_cons_zero]; rfl) | rfl) (by kernel_rfl) (by kernel_rfl) (by kernel_rfl) (fun _ _ _ h => h) (Or.inl ⟨by rfl, ?_⟩) (by assumption) ?_
    rotate_left 1
    · (intro w' hSw; (try dsimp only at hSw); go_simp; (try with_reducible rfl))
    try simp only [Act.put, List.setIfInBounds_toArray, List.set_cons_zero, List.set_cons_succ]
    refine wpAnyH_take (i := 3) (v := ?_) (by first | (simp only [List.getElem?_toArray, List.getElem?_cons_succ, List.getElem?_cons_zero]; rfl) | rfl) (by kernel_rfl) (by kernel_rfl) (by kernel_rfl) (fun _ _ _ h => h) (Or.inl ⟨by rfl, ?_⟩) (by assumption) ?_
    rotate_left 1
    · (intro w' hSw; (try dsimp only at hSw); go_simp; (try with_reducible rfl))
    try simp only [Act.put, List.setIfInBounds_toArray, List.set_cons_zero, List.set_cons_succ]
    refine wpAnyH_take (i := 7) (v := ?_) (by first | (simp only [List.getElem?_toArray, List.getElem?_cons_succ, List.getElem?_cons_zero]; rfl) | rfl) (by kernel_rfl) (by kernel_rfl) (by kernel_rfl) (fun _ _ _ h => h) (Or.inl ⟨by rfl, ?_⟩) (by assumption) ?_
    rotate_left 1
    · (intro w' hSw; (try dsimp only at hSw); go_simp; (try with_reducible rfl))
    try simp only [Act.put, List.setIfInBounds_toArray, List.set_cons_zero, List.set_cons_succ]
    refine wpAnyH_take (i := 10) (v := ?_) (by first | (simp only [List.getElem?_toArray, List.getElem?_cons_succ, List.getElem?_cons_zero]; rfl) | rfl) (by kernel_rfl) (by kernel_rfl) (by kernel_rfl) (fun _ _ _ h => h) (Or.inl ⟨by rfl, ?_⟩) (by assumption) ?_
    rotate_left 1
    · (intro w' hSw; (try dsimp only at hSw); go_simp; (try with_reducible rfl))
    try simp only [Act.put, List.setIfInBounds_toArray, List.set_cons_zero, List.set_cons_succ]
    refine wpAnyH_ready (rs := [1, 15]) (by kernel_rfl) (by simp) ?_
    refine AllReadyH.cons (by first | (simp only [List.getElem?_toArray, List.getElem?_cons_succ, List.getElem?_cons_zero]; rfl) | rfl) (fun K hK => ?_) (AllReadyH.cons (by first | (simp only [List.getElem?_toArray, List.getElem?_cons_succ, List.getElem?_cons_zero]; rfl) | rfl) (fun K hK => ?_) AllReadyH.nil)
    · skip
      go_simp
      refine (HTx.out wc0 HB_wc0.out).mono ?_
      rintro e wc1 ⟨hb, f1, B1, d1, E1, g1, rfl, hmap, hC, hF, hX⟩
      dsimp only
      have HB_wc1 := Lib.hid (HB_wc0.out.trans (hb.mono HB_wc0.out.size))
      have HJ1_wc1 := Lib.hid (JcW.told (w0 := W4) HB_wc0.out.size hC hF)
      have HM1 := Lib.hid hmap
      have hln1 : f1.length ≤ 65537 := by (have h3 : f1.length = fs.length := (by have := congrArg List.length hmap; simpa using this)); omega
      clear hb hmap hC hF hX
      refine hK.out _ _ (HS.out _ HB_wc1.out) (fun hHeld => ?_)
      clear hK K
      try simp only [Act.put, List.setIfInBounds_toArray, List.set_cons_zero, List.set_cons_succ]
      refine wpAnyH_take (i := 2) (v := ?_) (by first | (simp only [List.getElem?_toArray, List.getElem?_cons_succ, List.getElem?_cons_zero]; rfl) | rfl) (by kernel_rfl) (by kernel_rfl) (by kernel_rfl) (fun _ _ _ h => h) (Or.inl ⟨by rfl, ?_⟩) (by assumption) ?_
      rotate_left 1
      · (intro w' hSw; (try dsimp only at hSw); go_simp; (try with_reducible rfl))
      try simp only [Act.put, List.setIfInBounds_toArray, List.set_cons_zero, List.set_cons_succ]
      refine wpAnyH_ready (rs := [4, 15]) (by kernel_rfl) (by simp) ?_
      refine AllReadyH.cons (by first | (simp only [List.getElem?_toArray, List.getElem?_cons_succ, List.getElem?_cons_zero]; rfl) | rfl) (fun K hK => ?_) (AllReadyH.cons (by first | (simp only [List.getElem?_toArray, List.getElem?_cons_succ, List.getElem?_cons_zero]; rfl) | rfl) (fun K hK => ?_) AllReadyH.nil)
      · skip
        go_simp
        refine (HTy.out wc1 HB_wc1.out).mono ?_
        rintro e wc2 ⟨hb, f4, B4, d4, E4, g4, rfl, hmap, hC, hF, hX⟩
        dsimp only
        have HB_wc2 := Lib.hid (HB_wc1.out.trans (hb.mono HB_wc1.out.size))
        have HJ1_wc2 := Lib.hid (HJ1_wc1.out.below hb)
        have HJ2_wc2 := Lib.hid (JcW.told (w0 := W4) HB_wc1.out.size hC hF)
        have HM4_ := Lib.hid hmap
        have hln4 : f4.length ≤ 65537 := by (have h3 : f4.length = gs.length := (by have := congrArg List.length hmap; simpa using this)); omega
        clear hb hmap hC hF hX
        refine hK.out _ _ (HS.out _ HB_wc2.out) (fun hHeld => ?_)
        clear hK K
        try simp only [Act.put, List.setIfInBounds_toArray, List.set_cons_zero, List.set_cons_succ]
        refine wpAnyH_take (i := 5) (v := ?_) (by first | (simp only [List.getElem?_toArray, List.getElem?_cons_succ, List.getElem?_cons_zero]; rfl) | rfl) (by kernel_rfl) (by kernel_rfl) (by kernel_rfl) (fun _ _ _ h => h) (Or.inl ⟨by rfl, ?_⟩) (by assumption) ?_
        rotate_left 1
        · (intro w' hSw; (try dsimp only at hSw); go_simp; (try with_reducible rfl))
        try simp only [Act.put, List.setIfInBounds_toArray, List.set_cons_zero, List.set_cons_succ]
        refine wpAnyH_ready (rs := [6, 15]) (by kernel_rfl) (by simp) ?_
        refine AllReadyH.cons (by first | (simp only [List.getElem?_toArray, List.getElem?_cons_succ, List.getElem?_cons_zero]; rfl) | rfl) (fun K hK => ?_) (AllReadyH.cons (by first | (simp only [List.getElem?_toArray, List.getElem?_cons_succ, List.getElem?_cons_zero]; rfl) | rfl) (fun K hK => ?_) AllReadyH.nil)
        · skip
          refine step_append_y (base := W4.heap.size) (v := .slice B1 f1.length d1) (xs := f1) (news := f4) rfl _ _ rfl rfl rfl HJ1_wc2.out.own (own_rdZ HJ2_wc2.out.own).1 (own_rdZ HJ2_wc2.out.own).2.2 HJ2_wc2.out.one (by omega) (by omega) HB_wc2.out.size ?_
          intro A7 ts c7 wc3 HT7 HO7 HB7
          have HB_wc3 := Lib.hid (HB_wc2.out.trans HB7.out.1)
          have HJ3_wc3 := Lib.hid (HJ1_wc2.out.app HJ2_wc2.out HT7.out HO7.out HB7.out.2.1)
          refine hK.out _ _ (HS.out _ HB_wc3.out) (fun hHeld => ?_)
          clear hK K
          try simp only [Act.put, List.setIfInBounds_toArray, List.set_cons_zero, List.set_cons_succ]
          refine wpAnyH_ready (rs := [8, 15]) (by kernel_rfl) (by simp) ?_
          refine AllReadyH.cons (by first | (simp only [List.getElem?_toArray, List.getElem?_cons_succ, List.getElem?_cons_zero]; rfl) | rfl) (fun K hK => ?_) (AllReadyH.cons (by first | (simp only [List.getElem?_toArray, List.getElem?_cons_succ, List.getElem?_cons_zero]; rfl) | rfl) (fun K hK => ?_) AllReadyH.nil)
          · skip
            go_simp
            refine (HTx.out wc3 HB_wc3.out).mono ?_
            rintro e wc4 ⟨hb, f8, B8, d8, E8, g8, rfl, hmap, hC, hF, hX⟩
            dsimp only
            have HB_wc4 := Lib.hid (HB_wc3.out.trans (hb.mono HB_wc3.out.size))
            have HJ3_wc4 := Lib.hid (HJ3_wc3.out.below hb)
            have HX1_wc4 := Lib.hid (hX.wide HB_wc3.out.size)
            clear hb hmap hC hF hX
            refine hK.out _ _ (HS.out _ HB_wc4.out) (fun hHeld => ?_)
            clear hK K
            try simp only [Act.put, List.setIfInBounds_toArray, List.set_cons_zero, List.set_cons_succ]
            refine wpAnyH_take (i := 9) (v := ?_) (by first | (simp only [List.getElem?_toArray, List.getElem?_cons_succ, List.getElem?_cons_zero]; rfl) | rfl) (by kernel_rfl) (by kernel_rfl) (by kernel_rfl) (fun _ _ _ h => h) (Or.inl ⟨by rfl, ?_⟩) (by assumption) ?_
            rotate_left 1
            · (intro w' hSw; (try dsimp only at hSw); go_simp; (try with_reducible rfl))
            try simp only [Act.put, List.setIfInBounds_toArray, List.set_cons_zero, List.set_cons_succ]
            refine wpAnyH_ready (rs := [11, 15]) (by kernel_rfl) (by simp) ?_
            refine AllReadyH.cons (by first | (simp only [List.getElem?_toArray, List.getElem?_cons_succ, List.getElem?_cons_zero]; rfl) | rfl) (fun K hK => ?_) (AllReadyH.cons (by first | (simp only [List.getElem?_toArray, List.getElem?_cons_succ, List.getElem?_cons_zero]; rfl) | rfl) (fun K hK => ?_) AllReadyH.nil)
            · skip
              go_simp
              refine (HTy.out wc4 HB_wc4.out).mono ?_
              rintro e wc5 ⟨hb, f11, B11, d11, E11, g11, rfl, hmap, hC, hF, hX⟩
              dsimp only
              have HB_wc5 := Lib.hid (HB_wc4.out.trans (hb.mono HB_wc4.out.size))
              have HJ3_wc5 := Lib.hid (HJ3_wc4.out.below hb)
              have HX1_wc5 := Lib.hid (HX1_wc4.out.below hb)
              have HX2_wc5 := Lib.hid (hX.wide HB_wc4.out.size)
              clear hb hmap hC hF hX
              refine hK.out _ _ (HS.out _ HB_wc5.out) (fun hHeld => ?_)
              clear hK K
              try simp only [Act.put, List.setIfInBounds_toArray, List.set_cons_zero, List.set_cons_succ]
              refine wpAnyH_take (i := 12) (v := ?_) (by first | (simp only [List.getElem?_toArray, List.getElem?_cons_succ, List.getElem?_cons_zero]; rfl) | rfl) (by kernel_rfl) (by kernel_rfl) (by kernel_rfl) (fun _ _ _ h => h) (Or.inl ⟨by rfl, ?_⟩) (by assumption) ?_
              rotate_left 1
              · (intro w' hSw; (try dsimp only at hSw); go_simp; (try with_reducible rfl))
              try simp only [Act.put, List.setIfInBounds_toArray, List.set_cons_zero, List.set_cons_succ]
              refine wpAnyH_ready (rs := [13, 15]) (by kernel_rfl) (by simp) ?_
              refine AllReadyH.cons (by first | (simp only [List.getElem?_toArray, List.getElem?_cons_succ, List.getElem?_cons_zero]; rfl) | rfl) (fun K hK => ?_) (AllReadyH.cons (by first | (simp only [List.getElem?_toArray, List.getElem?_cons_succ, List.getElem?_cons_zero]; rfl) | rfl) (fun K hK => ?_) AllReadyH.nil)
              · skip
                refine step_append_x (base := W4.heap.size) (v := .slice E8 (unitS (readT s)).length g8) (xs := unitS (readT s)) (news := unitS (readT t)) rfl _ _ rfl rfl rfl HX1_wc5.out (own_rdZ HX2_wc5.out).1 (own_rdZ HX2_wc5.out).2.2 (sc__oneC _) (by omega) (by omega) HB_wc5.out.size ?_
                intro A8 xs c8 wc6 HT8 HO8 HB8
                have HB_wc6 := Lib.hid (HB_wc5.out.trans HB8.out.1)
                have HJ3_wc6 := Lib.hid (HJ3_wc5.out.keepX HX1_wc5.out HB8.out.2.1)
                have HX3_wc6 := HO8
                refine hK.out _ _ (HS.out _ HB_wc6.out) (fun hHeld => ?_)
                clear hK K
                try simp only [Act.put, List.setIfInBounds_toArray, List.set_cons_zero, List.set_cons_succ]
                refine wpAnyH_take (i := 14) (v := ?_) (by first | (simp only [List.getElem?_toArray, List.getElem?_cons_succ, List.getElem?_cons_zero]; rfl) | rfl) (by kernel_rfl) (by kernel_rfl) (by kernel_rfl) (fun _ _ _ h => h) (Or.inl ⟨by rfl, ?_⟩) (by assumption) ?_
                rotate_left 1
                · (intro w' hSw; (try dsimp only at hSw); go_simp; (try with_reducible rfl))
                try simp only [Act.put, List.setIfInBounds_toArray, List.set_cons_zero, List.set_cons_succ]
                refine wpAnyH_ready (rs := [15]) (by kernel_rfl) (by simp) ?_
                refine AllReadyH.cons (by first | (simp only [List.getElem?_toArray, List.getElem?_cons_succ, List.getElem?_cons_zero]; rfl) | rfl) (fun K hK => ?_) AllReadyH.nil
                go_simp
                show K _ (wc6.alloc (.cells #[.slice none 0 0, .slice none 0 0] 33))
                obtain ⟨wc6a, hcw⟩ : ∃ x, wc6.alloc (.cells #[.slice none 0 0, .slice none 0 0] 33) = x := ⟨_, rfl⟩
                have hb : Below wc6.heap.size wc6 wc6a := by rw [← hcw]; exact (Below.refl _ _).alloc (Nat.le_refl _) _
                have hg : wc6a.heap[wc6.heap.size]? = some (.cells #[.slice none 0 0, .slice none 0 0] 33 (0, 0)) := by rw [← hcw]; exact heap_alloc_new _ _
                have hgs : W4.heap.size ≤ wc6.heap.size := HB_wc6.out.size
                rw [hcw]
                obtain ⟨G, hG⟩ : ∃ G, wc6.heap.size = G := ⟨_, rfl⟩
                rw [hG] at hg hgs
                simp only [hG]
                have HB_wc6a := Lib.hid (HB_wc6.out.trans (hb.mono HB_wc6.out.size))
                have HJ3_wc6a := Lib.hid (HJ3_wc6.out.below hb)
                have HX3_wc6a := Lib.hid (HX3_wc6.out.below hb)
                have HG_wc6a := Lib.hid hg
                have HGs := Lib.hid hgs
                clear hcw hb hg hgs hG
                refine hK.out _ _ (HS.out _ HB_wc6a.out) (fun hHeld => ?_)
                clear hK K
                try simp only [Act.put, List.setIfInBounds_toArray, List.set_cons_zero, List.set_cons_succ]
                refine wpAnyH_ready (rs := [16]) (by kernel_rfl) (by simp) ?_
                refine AllReadyH.cons (by first | (simp only [List.getElem?_toArray, List.getElem?_cons_succ, List.getElem?_cons_zero]; rfl) | rfl) (fun K hK => ?_) AllReadyH.nil
                have fG := cells2V HG_wc6a.out
                have lG := lt_of_blk HG_wc6a.out
                go_simp
                have hBe := (HB_wc6a.out.setCell (p := ⟨G, 0, none⟩) HGs.out (.slice A7 ts.length c7)).setCell (p := ⟨G, 1, none⟩) HGs.out (.slice A8 xs.length c8)
                refine hK.out _ _ (HS.out _ hBe) (fun hHeld => ?_)
                clear hK K
                try simp only [Act.put, List.setIfInBounds_toArray, List.set_cons_zero, List.set_cons_succ]
                refine wpAnyH_done (by kernel_rfl) ?_ _
                refine NoPanic.normal ?_
                clear hHeld fG lG
                go_wp2_with fail
                go_meet
                have g1 := set2V HG_wc6a.out (.slice A7 ts.length c7) (.slice A8 xs.length c8)
                have j0 := HJ3_wc6a.out.cell HG_wc6a.out 0 (.slice A7 ts.length c7)
                have q0 := heap_setCell_same wc6a G 0 _ _ (.slice A7 ts.length c7) HG_wc6a.out
                have j1 := j0.cell q0 1 (.slice A8 xs.length c8)
                have x0 := HX3_wc6a.out.cell (P := G) (k := 0) (own_ne HX3_wc6a.out HG_wc6a.out (by decide)) (.slice A7 ts.length c7)
                have x1 := x0.cell (P := G) (k := 1) (own_ne x0 q0 (by decide)) (.slice A8 xs.length c8)
                exact ⟨G, ts, xs, A7, c7, A8, c8, rfl, Lib.hid hBe, Lib.hid (UnAt.doc j1.own j1.inn x1), Lib.hid ⟨by rw [HT7.out, List.map_append, HM1.out, HM4_.out, List.map_append], HT8.out⟩, Lib.hid g1⟩
              · skip
                go_simp
                show K _ (wc5.alloc (.cells #[.slice none 0 0, .slice none 0 0] 33))
                obtain ⟨wc5a, hcw⟩ : ∃ x, wc5.alloc (.cells #[.slice none 0 0, .slice none 0 0] 33) = x := ⟨_, rfl⟩
                have hb : Below wc5.heap.size wc5 wc5a := by rw [← hcw]; exact (Below.refl _ _).alloc (Nat.le_refl _) _
                have hg : wc5a.heap[wc5.heap.size]? = some (.cells #[.slice none 0 0, .slice none 0 0] 33 (0, 0)) := by rw [← hcw]; exact heap_alloc_new _ _
                have hgs : W4.heap.size ≤ wc5.heap.size := HB_wc5.out.size
                rw [hcw]
                obtain ⟨G, hG⟩ : ∃ G, wc5.heap.size = G := ⟨_, rfl⟩
                rw [hG] at hg hgs
                simp only [hG]
                have HB_wc5a := Lib.hid (HB_wc5.out.trans (hb.mono HB_wc5.out.size))
                have HJ3_wc5a := Lib.hid (HJ3_wc5.out.below hb)
                have HX1_wc5a := Lib.hid (HX1_wc5.out.below hb)
                have HX2_wc5a := Lib.hid (HX2_wc5.out.below hb)
                have HG_wc5a := Lib.hid hg
                have HGs := Lib.hid hgs
                clear hcw hb hg hgs hG
                refine hK.out _ _ (HS.out _ HB_wc5a.out) (fun hHeld => ?_)
                clear hK K
                try simp only [Act.put, List.setIfInBounds_toArray, List.set_cons_zero, List.set_cons_succ]
                refine wpAnyH_ready (rs := [13]) (by kernel_rfl) (by simp) ?_
                refine AllReadyH.cons (by first | (simp only [List.getElem?_toArray, List.getElem?_cons_succ, List.getElem?_cons_zero]; rfl) | rfl) (fun K hK => ?_) AllReadyH.nil
                refine step_append_x (base := W4.heap.size) (v := .slice E8 (unitS (readT s)).length g8) (xs := unitS (readT s)) (news := unitS (readT t)) rfl _ _ rfl rfl rfl HX1_wc5a.out (own_rdZ HX2_wc5a.out).1 (own_rdZ HX2_wc5a.out).2.2 (sc__oneC _) (by omega) (by omega) HB_wc5a.out.size ?_
                intro A8 xs c8 wc6a HT8 HO8 HB8
                have HB_wc6a := Lib.hid (HB_wc5a.out.trans HB8.out.1)
                have HJ3_wc6a := Lib.hid (HJ3_wc5a.out.keepX HX1_wc5a.out HB8.out.2.1)
                have HX3_wc6a := HO8
                have HG_wc6a := Lib.hid ((HB8.out.2.1 _ (lt_of_blk HG_wc5a.out) (own_ne HX1_wc5a.out HG_wc5a.out (by decide)).symm).trans HG_wc5a.out)
                refine hK.out _ _ (HS.out _ HB_wc6a.out) (fun hHeld => ?_)
                clear hK K
                try simp only [Act.put, List.setIfInBounds_toArray, List.set_cons_zero, List.set_cons_succ]
                refine wpAnyH_take (i := 14) (v := ?_) (by first | (simp only [List.getElem?_toArray, List.getElem?_cons_succ, List.getElem?_cons_zero]; rfl) | rfl) (by kernel_rfl) (by kernel_rfl) (by kernel_rfl) (fun _ _ _ h => h) (Or.inl ⟨by rfl, ?_⟩) (by assumption) ?_
                rotate_left 1
                · (intro w' hSw; (try dsimp only at hSw); go_simp; (try with_reducible rfl))
                try simp only [Act.put, List.setIfInBounds_toArray, List.set_cons_zero, List.set_cons_succ]
                refine wpAnyH_ready (rs := [16]) (by kernel_rfl) (by simp) ?_
                refine AllReadyH.cons (by first | (simp only [List.getElem?_toArray, List.getElem?_cons_succ, List.getElem?_cons_zero]; rfl) | rfl) (fun K hK => ?_) AllReadyH.nil
                have fG := cells2V HG_wc6a.out
                have lG := lt_of_blk HG_wc6a.out
                go_simp
                have hBe := (HB_wc6a.out.setCell (p := ⟨G, 0, none⟩) HGs.out (.slice A7 ts.length c7)).setCell (p := ⟨G, 1, none⟩) HGs.out (.slice A8 xs.length c8)
                refine hK.out _ _ (HS.out _ hBe) (fun hHeld => ?_)
                clear hK K
                try simp only [Act.put, List.setIfInBounds_toArray, List.set_cons_zero, List.set_cons_succ]
                refine wpAnyH_done (by kernel_rfl) ?_ _
                refine NoPanic.normal ?_
                clear hHeld fG lG
                go_wp2_with fail
                go_meet
                have g1 := set2V HG_wc6a.out (.slice A7 ts.length c7) (.slice A8 xs.length c8)
                have j0 := HJ3_wc6a.out.cell HG_wc6a.out 0 (.slice A7 ts.length c7)
                have q0 := heap_setCell_same wc6a G 0 _ _ (.slice A7 ts.length c7) HG_wc6a.out
                have j1 := j0.cell q0 1 (.slice A8 xs.length c8)
                have x0 := HX3_wc6a.out.cell (P := G) (k := 0) (own_ne HX3_wc6a.out HG_wc6a.out (by decide)) (.slice A7 ts.length c7)
                have x1 := x0.cell (P := G) (k := 1) (own_ne x0 q0 (by decide)) (.slice A8 xs.length c8)
                exact ⟨G, ts, xs, A7, c7, A8, c8, rfl, Lib.hid hBe, Lib.hid (UnAt.doc j1.own j1.inn x1), Lib.hid ⟨by rw [HT7.out, List.map_append, HM1.out, HM4_.out, List.map_append], HT8.out⟩, Lib.hid g1⟩
            · skip
              go_simp
              show K _ (wc4.alloc (.cells #[.slice none 0 0, .slice none 0 0] 33))
              obtain ⟨wc4a, hcw⟩ : ∃ x, wc4.alloc (.cells #[.slice none 0 0, .slice none 0 0] 33) = x := ⟨_, rfl⟩
              have hb : Below wc4.heap.size wc4 wc4a := by rw [← hcw]; exact (Below.refl _ _).alloc (Nat.le_refl _) _
              have hg : wc4a.heap[wc4.heap.size]? = some (.cells #[.slice none 0 0, .slice none 0 0] 33 (0, 0)) := by rw [← hcw]; exact heap_alloc_new _ _
              have hgs : W4.heap.size ≤ wc4.heap.size := HB_wc4.out.size
              rw [hcw]
              obtain ⟨G, hG⟩ : ∃ G, wc4.heap.size = G := ⟨_, rfl⟩
              rw [hG] at hg hgs
              simp only [hG]
              have HB_wc4a := Lib.hid (HB_wc4.out.trans (hb.mono HB_wc4.out.size))
              have HJ3_wc4a := Lib.hid (HJ3_wc4.out.below hb)
              have HX1_wc4a := Lib.hid (HX1_wc4.out.below hb)
              have HG_wc4a := Lib.hid hg
              have HGs := Lib.hid hgs
              clear hcw hb hg hgs hG
              refine hK.out _ _ (HS.out _ HB_wc4a.out) (fun hHeld => ?_)
              clear hK K
              try simp only [Act.put, List.setIfInBounds_toArray, List.set_cons_zero, List.set_cons_succ]
              refine wpAnyH_ready (rs := [11]) (by kernel_rfl) (by simp) ?_
              refine AllReadyH.cons (by first | (simp only [List.getElem?_toArray, List.getElem?_cons_succ, List.getElem?_cons_zero]; rfl) | rfl) (fun K hK => ?_) AllReadyH.nil
              go_simp
              refine (HTy.out wc4a HB_wc4a.out).mono ?_
              rintro e wc5a ⟨hb, f11, B11, d11, E11, g11, rfl, hmap, hC, hF, hX⟩
              dsimp only
              have HB_wc5a := Lib.hid (HB_wc4a.out.trans (hb.mono HB_wc4a.out.size))
              have HJ3_wc5a := Lib.hid (HJ3_wc4a.out.below hb)
              have HX1_wc5a := Lib.hid (HX1_wc4a.out.below hb)
              have HG_wc5a := Lib.hid ((hb.block _ (lt_of_blk HG_wc4a.out)).trans HG_wc4a.out)
              have HX2_wc5a := Lib.hid (hX.wide HB_wc4a.out.size)
              clear hb hmap hC hF hX
              refine hK.out _ _ (HS.out _ HB_wc5a.out) (fun hHeld => ?_)
              clear hK K
              try simp only [Act.put, List.setIfInBounds_toArray, List.set_cons_zero, List.set_cons_succ]
              refine wpAnyH_take (i := 12) (v := ?_) (by first | (simp only [List.getElem?_toArray, List.getElem?_cons_succ, List.getElem?_cons_zero]; rfl) | rfl) (by kernel_rfl) (by kernel_rfl) (by kernel_rfl) (fun _ _ _ h => h) (Or.inl ⟨by rfl, ?_⟩) (by assumption) ?_
              rotate_left 1
              · (intro w' hSw; (try dsimp only at hSw); go_simp; (try with_reducible rfl))
              try simp only [Act.put, List.setIfInBounds_toArray, List.set_cons_zero, List.set_cons_succ]
              refine wpAnyH_ready (rs := [13]) (by kernel_rfl) (by simp) ?_
              refine AllReadyH.cons (by first | (simp only [List.getElem?_toArray, List.getElem?_cons_succ, List.getElem?_cons_zero]; rfl) | rfl) (fun K hK => ?_) AllReadyH.nil
              refine step_append_x (base := W4.heap.size) (v := .slice E8 (unitS (readT s)).length g8) (xs := unitS (readT s)) (news := unitS (readT t)) rfl _ _ rfl rfl rfl HX1_wc5a.out (own_rdZ HX2_wc5a.out).1 (own_rdZ HX2_wc5a.out).2.2 (sc__oneC _) (by omega) (by omega) HB_wc5a.out.size ?_
              intro A8 xs c8 wc6a HT8 HO8 HB8
              have HB_wc6a := Lib.hid (HB_wc5a.out.trans HB8.out.1)
              have HJ3_wc6a := Lib.hid (HJ3_wc5a.out.keepX HX1_wc5a.out HB8.out.2.1)
              have HX3_wc6a := HO8
              have HG_wc6a := Lib.hid ((HB8.out.2.1 _ (lt_of_blk HG_wc5a.out) (own_ne HX1_wc5a.out HG_wc5a.out (by decide)).symm).trans HG_wc5a.out)
              refine hK.out _ _ (HS.out _ HB_wc6a.out) (fun hHeld => ?_)
              clear hK K
              try simp only [Act.put, List.setIfInBounds_toArray, List.set_cons_zero, List.set_cons_succ]
              refine wpAnyH_take (i := 14) (v := ?_) (by first | (simp only [List.getElem?_toArray, List.getElem?_cons_succ, List.getElem?_cons_zero]; rfl) | rfl) (by kernel_rfl) (by kernel_rfl) (by kernel_rfl) (fun _ _ _ h => h) (Or.inl ⟨by rfl, ?_⟩) (by assumption) ?_
              rotate_left 1
              · (intro w' hSw; (try dsimp only at hSw); go_simp; (try with_reducible rfl))
              try simp only [Act.put, List.setIfInBounds_toArray, List.set_cons_zero, List.set_cons_succ]
              refine wpAnyH_ready (rs := [16]) (by kernel_rfl) (by simp) ?_
              refine AllReadyH.cons (by first | (simp only [List.getElem?_toArray, List.getElem?_cons_succ, List.getElem?_cons_zero]; rfl) | rfl) (fun K hK => ?_) AllReadyH.nil
              have fG := cells2V HG_wc6a.out
              have lG := lt_of_blk HG_wc6a.out
              go_simp
              have hBe := (HB_wc6a.out.setCell (p := ⟨G, 0, none⟩) HGs.out (.slice A7 ts.length c7)).setCell (p := ⟨G, 1, none⟩) HGs.out (.slice A8 xs.length c8)
              refine hK.out _ _ (HS.out _ hBe) (fun hHeld => ?_)
              clear hK K
              try simp only [Act.put, List.setIfInBounds_toArray, List.set_cons_zero, List.set_cons_succ]
              refine wpAnyH_done (by kernel_rfl) ?_ _
              refine NoPanic.normal ?_
              clear hHeld fG lG
              go_wp2_with fail
              go_meet
              have g1 := set2V HG_wc6a.out (.slice A7 ts.length c7) (.slice A8 xs.length c8)
              have j0 := HJ3_wc6a.out.cell HG_wc6a.out 0 (.slice A7 ts.length c7)
              have q0 := heap_setCell_same wc6a G 0 _ _ (.slice A7 ts.length c7) HG_wc6a.out
              have j1 := j0.cell q0 1 (.slice A8 xs.length c8)
              have x0 := HX3_wc6a.out.cell (P := G) (k := 0) (own_ne HX3_wc6a.out HG_wc6a.out (by decide)) (.slice A7 ts.length c7)
              have x1 := x0.cell (P := G) (k := 1) (own_ne x0 q0 (by decide)) (.slice A8 xs.length c8)
              exact ⟨G, ts, xs, A7, c7, A8, c8, rfl, Lib.hid hBe, Lib.hid (UnAt.doc j1.own j1.inn x1), Lib.hid ⟨by rw [HT7.out, List.map_append, HM1.out, HM4_.out, List.map_append], HT8.out⟩, Lib.hid g1⟩
          · skip
            go_simp
            show K _ (wc3.alloc (.cells #[.slice none 0 0, .slice none 0 0] 33))
            obtain ⟨wc3a, hcw⟩ : ∃ x, wc3.alloc (.cells #[.slice none 0 0, .slice none 0 0] 33) = x := ⟨_, rfl⟩
            have hb : Below wc3.heap.size wc3 wc3a := by rw [← hcw]; exact (Below.refl _ _).alloc (Nat.le_refl _) _
            have hg : wc3a.heap[wc3.heap.size]? = some (.cells #[.slice none 0 0, .slice none 0 0] 33 (0, 0)) := by rw [← hcw]; exact heap_alloc_new _ _
            have hgs : W4.heap.size ≤ wc3.heap.size := HB_wc3.out.size
            rw [hcw]
            obtain ⟨G, hG⟩ : ∃ G, wc3.heap.size = G := ⟨_, rfl⟩
            rw [hG] at hg hgs
            simp only [hG]
            have HB_wc3a := Lib.hid (HB_wc3.out.trans (hb.mono HB_wc3.out.size))
            have HJ3_wc3a := Lib.hid (HJ3_wc3.out.below hb)
            have HG_wc3a := Lib.hid hg
            have HGs := Lib.hid hgs
            clear hcw hb hg hgs hG
            refine hK.out _ _ (HS.out _ HB_wc3a.out) (fun hHeld => ?_)
            clear hK K
            try simp only [Act.put, List.setIfInBounds_toArray, List.set_cons_zero, List.set_cons_succ]
            refine wpAnyH_ready (rs := [8]) (by kernel_rfl) (by simp) ?_
            refine AllReadyH.cons (by first | (simp only [List.getElem?_toArray, List.getElem?_cons_succ, List.getElem?_cons_zero]; rfl) | rfl) (fun K hK => ?_) AllReadyH.nil
            go_simp
            refine (HTx.out wc3a HB_wc3a.out).mono ?_
            rintro e wc4a ⟨hb, f8, B8, d8, E8, g8, rfl, hmap, hC, hF, hX⟩
            dsimp only
            have HB_wc4a := Lib.hid (HB_wc3a.out.trans (hb.mono HB_wc3a.out.size))
            have HJ3_wc4a := Lib.hid (HJ3_wc3a.out.below hb)
            have HG_wc4a := Lib.hid ((hb.block _ (lt_of_blk HG_wc3a.out)).trans HG_wc3a.out)
            have HX1_wc4a := Lib.hid (hX.wide HB_wc3a.out.size)
            clear hb hmap hC hF hX
            refine hK.out _ _ (HS.out _ HB_wc4a.out) (fun hHeld => ?_)
            clear hK K
            try simp only [Act.put, List.setIfInBounds_toArray, List.set_cons_zero, List.set_cons_succ]
            refine wpAnyH_take (i := 9) (v := ?_) (by first | (simp only [List.getElem?_toArray, List.getElem?_cons_succ, List.getElem?_cons_zero]; rfl) | rfl) (by kernel_rfl) (by kernel_rfl) (by kernel_rfl) (fun _ _ _ h => h) (Or.inl ⟨by rfl, ?_⟩) (by assumption) ?_
            rotate_left 1
            · (intro w' hSw; (try dsimp only at hSw); go_simp; (try with_reducible rfl))
            try simp only [Act.put, List.setIfInBounds_toArray, List.set_cons_zero, List.set_cons_succ]
            refine wpAnyH_ready (rs := [11]) (by kernel_rfl) (by simp) ?_
            refine AllReadyH.cons (by first | (simp only [List.getElem?_toArray, List.getElem?_cons_succ, List.getElem?_cons_zero]; rfl) | rfl) (fun K hK => ?_) AllReadyH.nil
            go_simp
            refine (HTy.out wc4a HB_wc4a.out).mono ?_
            rintro e wc5a ⟨hb, f11, B11, d11, E11, g11, rfl, hmap, hC, hF, hX⟩
            dsimp only
            have HB_wc5a := Lib.hid (HB_wc4a.out.trans (hb.mono HB_wc4a.out.size))
            have HJ3_wc5a := Lib.hid (HJ3_wc4a.out.below hb)
            have HX1_wc5a := Lib.hid (HX1_wc4a.out.below hb)
            have HG_wc5a := Lib.hid ((hb.block _ (lt_of_blk HG_wc4a.out)).trans HG_wc4a.out)
            have HX2_wc5a := Lib.hid (hX.wide HB_wc4a.out.size)
            clear hb hmap hC hF hX
            refine hK.out _ _ (HS.out _ HB_wc5a.out) (fun hHeld => ?_)
            clear hK K
            try simp only [Act.put, List.setIfInBounds_toArray, List.set_cons_zero, List.set_cons_succ]
            refine wpAnyH_take (i := 12) (v := ?_) (by first | (simp only [List.getElem?_toArray, List.getElem?_cons_succ, List.getElem?_cons_zero]; rfl) | rfl) (by kernel_rfl) (by kernel_rfl) (by kernel_rfl) (fun _ _ _ h => h) (Or.inl ⟨by rfl, ?_⟩) (by assumption) ?_
            rotate_left 1
            · (intro w' hSw; (try dsimp only at hSw); go_simp; (try with_reducible rfl))
            try simp only [Act.put, List.setIfInBounds_toArray, List.set_cons_zero, List.set_cons_succ]
            refine wpAnyH_ready (rs := [13]) (by kernel_rfl) (by simp) ?_
            refine AllReadyH.cons (by first | (simp only [List.getElem?_toArray, List.getElem?_cons_succ, List.getElem?_cons_zero]; rfl) | rfl) (fun K hK => ?_) AllReadyH.nil
            refine step_append_x (base := W4.heap.size) (v := .slice E8 (unitS (readT s)).length g8) (xs := unitS (readT s)) (news := unitS (readT t)) rfl _ _ rfl rfl rfl HX1_wc5a.out (own_rdZ HX2_wc5a.out).1 (own_rdZ HX2_wc5a.out).2.2 (sc__oneC _) (by omega) (by omega) HB_wc5a.out.size ?_
            intro A8 xs c8 wc6a HT8 HO8 HB8
            have HB_wc6a := Lib.hid (HB_wc5a.out.trans HB8.out.1)
            have HJ3_wc6a := Lib.hid (HJ3_wc5a.out.keepX HX1_wc5a.out HB8.out.2.1)
            have HX3_wc6a := HO8
            have HG_wc6a := Lib.hid ((HB8.out.2.1 _ (lt_of_blk HG_wc5a.out) (own_ne HX1_wc5a.out HG_wc5a.out (by decide)).symm).trans HG_wc5a.out)
            refine hK.out _ _ (HS.out _ HB_wc6a.out) (fun hHeld => ?_)
            clear hK K
            try simp only [Act.put, List.setIfInBounds_toArray, List.set_cons_zero, List.set_cons_succ]
            refine wpAnyH_take (i := 14) (v := ?_) (by first | (simp only [List.getElem?_toArray, List.getElem?_cons_succ, List.getElem?_cons_zero]; rfl) | rfl) (by kernel_rfl) (by kernel_rfl) (by kernel_rfl) (fun _ _ _ h => h) (Or.inl ⟨by rfl, ?_⟩) (by assumption) ?_
            rotate_left 1
            · (intro w' hSw; (try dsimp only at hSw); go_simp; (try with_reducible rfl))
            try simp only [Act.put, List.setIfInBounds_toArray, List.set_cons_zero, List.set_cons_succ]
            refine wpAnyH_ready (rs := [16]) (by kernel_rfl) (by simp) ?_
            refine AllReadyH.cons (by first | (simp only [List.getElem?_toArray, List.getElem?_cons_succ, List.getElem?_cons_zero]; rfl) | rfl) (fun K hK => ?_) AllReadyH.nil
            have fG := cells2V HG_wc6a.out
            have lG := lt_of_blk HG_wc6a.out
            go_simp
            have hBe := (HB_wc6a.out.setCell (p := ⟨G, 0, none⟩) HGs.out (.slice A7 ts.length c7)).setCell (p := ⟨G, 1, none⟩) HGs.out (.slice A8 xs.length c8)
            refine hK.out _ _ (HS.out _ hBe) (fun hHeld => ?_)
            clear hK K
            try simp only [Act.put, List.setIfInBounds_toArray, List.set_cons_zero, List.set_cons_succ]
            refine wpAnyH_done (by kernel_rfl) ?_ _
            refine NoPanic.normal ?_
            clear hHeld fG lG
            go_wp2_with fail
            go_meet
            have g1 := set2V HG_wc6a.out (.slice A7 ts.length c7) (.slice A8 xs.length c8)
            have j0 := HJ3_wc6a.out.cell HG_wc6a.out 0 (.slice A7 ts.length c7)
            have q0 := heap_setCell_same wc6a G 0 _ _ (.slice A7 ts.length c7) HG_wc6a.out
            have j1 := j0.cell q0 1 (.slice A8 xs.length c8)
            have x0 := HX3_wc6a.out.cell (P := G) (k := 0) (own_ne HX3_wc6a.out HG_wc6a.out (by decide)) (.slice A7 ts.length c7)
            have x1 := x0.cell (P := G) (k := 1) (own_ne x0 q0 (by decide)) (.slice A8 xs.length c8)
            exact ⟨G, ts, xs, A7, c7, A8, c8, rfl, Lib.hid hBe, Lib.hid (UnAt.doc j1.own j1.inn x1), Lib.hid ⟨by rw [HT7.out, List.map_append, HM1.out, HM4_.out, List.map_append], HT8.out⟩, Lib.hid g1⟩
        · skip
          go_simp
          show K _ (wc2.alloc (.cells #[.slice none 0 0, .slice none 0 0] 33))
          obtain ⟨wc2a, hcw⟩ : ∃ x, wc2.alloc (.cells #[.slice none 0 0, .slice none 0 0] 33) = x := ⟨_, rfl⟩
          have hb : Below wc2.heap.size wc2 wc2a := by rw [← hcw]; exact (Below.refl _ _).alloc (Nat.le_refl _) _
          have hg : wc2a.heap[wc2.heap.size]? = some (.cells #[.slice none 0 0, .slice none 0 0] 33 (0, 0)) := by rw [← hcw]; exact heap_alloc_new _ _
          have hgs : W4.heap.size ≤ wc2.heap.size := HB_wc2.out.size
          rw [hcw]
          obtain ⟨G, hG⟩ : ∃ G, wc2.heap.size = G := ⟨_, rfl⟩
          rw [hG] at hg hgs
          simp only [hG]
          have HB_wc2a := Lib.hid (HB_wc2.out.trans (hb.mono HB_wc2.out.size))
          have HJ1_wc2a := Lib.hid (HJ1_wc2.out.below hb)
          have HJ2_wc2a := Lib.hid (HJ2_wc2.out.below hb)
          have HG_wc2a := Lib.hid hg
          have HGs := Lib.hid hgs
          clear hcw hb hg hgs hG
          refine hK.out _ _ (HS.out _ HB_wc2a.out) (fun hHeld => ?_)
          clear hK K
          try simp only [Act.put, List.setIfInBounds_toArray, List.set_cons_zero, List.set_cons_succ]
          refine wpAnyH_ready (rs := [6]) (by kernel_rfl) (by simp) ?_
          refine AllReadyH.cons (by first | (simp only [List.getElem?_toArray, List.getElem?_cons_succ, List.getElem?_cons_zero]; rfl) | rfl) (fun K hK => ?_) AllReadyH.nil
          refine step_append_y (base := W4.heap.size) (v := .slice B1 f1.length d1) (xs := f1) (news := f4) rfl _ _ rfl rfl rfl HJ1_wc2a.out.own (own_rdZ HJ2_wc2a.out.own).1 (own_rdZ HJ2_wc2a.out.own).2.2 HJ2_wc2a.out.one (by omega) (by omega) HB_wc2a.out.size ?_
          intro A7 ts c7 wc3a HT7 HO7 HB7
          have HB_wc3a := Lib.hid (HB_wc2a.out.trans HB7.out.1)
          have HJ3_wc3a := Lib.hid (HJ1_wc2a.out.app HJ2_wc2a.out HT7.out HO7.out HB7.out.2.1)
          have HG_wc3a := Lib.hid ((HB7.out.2.1 _ (lt_of_blk HG_wc2a.out) (own_ne HJ1_wc2a.out.own HG_wc2a.out (by decide)).symm).trans HG_wc2a.out)
          refine hK.out _ _ (HS.out _ HB_wc3a.out) (fun hHeld => ?_)
          clear hK K
          try simp only [Act.put, List.setIfInBounds_toArray, List.set_cons_zero, List.set_cons_succ]
          refine wpAnyH_ready (rs := [8]) (by kernel_rfl) (by simp) ?_
          refine AllReadyH.cons (by first | (simp only [List.getElem?_toArray, List.getElem?_cons_succ, List.getElem?_cons_zero]; rfl) | rfl) (fun K hK => ?_) AllReadyH.nil
          go_simp
          refine (HTx.out wc3a HB_wc3a.out).mono ?_
          rintro e wc4a ⟨hb, f8, B8, d8, E8, g8, rfl, hmap, hC, hF, hX⟩
          dsimp only
          have HB_wc4a := Lib.hid (HB_wc3a.out.trans (hb.mono HB_wc3a.out.size))
          have HJ3_wc4a := Lib.hid (HJ3_wc3a.out.below hb)
          have HG_wc4a := Lib.hid ((hb.block _ (lt_of_blk HG_wc3a.out)).trans HG_wc3a.out)
          have HX1_wc4a := Lib.hid (hX.wide HB_wc3a.out.size)
          clear hb hmap hC hF hX
          refine hK.out _ _ (HS.out _ HB_wc4a.out) (fun hHeld => ?_)
          clear hK K
          try simp only [Act.put, List.setIfInBounds_toArray, List.set_cons_zero, List.set_cons_succ]
          refine wpAnyH_take (i := 9) (v := ?_) (by first | (simp only [List.getElem?_toArray, List.getElem?_cons_succ, List.getElem?_cons_zero]; rfl) | rfl) (by kernel_rfl) (by kernel_rfl) (by kernel_rfl) (fun _ _ _ h => h) (Or.inl ⟨by rfl, ?_⟩) (by assumption) ?_
          rotate_left 1
          · (intro w' hSw; (try dsimp only at hSw); go_simp; (try with_reducible rfl))
          try simp only [Act.put, List.setIfInBounds_toArray, List.set_cons_zero, List.set_cons_succ]
          refine wpAnyH_ready (rs := [11]) (by kernel_rfl) (by simp) ?_
          refine AllReadyH.cons (by first | (simp only [List.getElem?_toArray, List.getElem?_cons_succ, List.getElem?_cons_zero]; rfl) | rfl) (fun K hK => ?_) AllReadyH.nil
          go_simp
          refine (HTy.out wc4a HB_wc4a.out).mono ?_
          rintro e wc5a ⟨hb, f11, B11, d11, E11, g11, rfl, hmap, hC, hF, hX⟩
          dsimp only
          have HB_wc5a := Lib.hid (HB_wc4a.out.trans (hb.mono HB_wc4a.out.size))
          have HJ3_wc5a := Lib.hid (HJ3_wc4a.out.below hb)
          have HX1_wc5a := Lib.hid (HX1_wc4a.out.below hb)
          have HG_wc5a := Lib.hid ((hb.block _ (lt_of_blk HG_wc4a.out)).trans HG_wc4a.out)
          have HX2_wc5a := Lib.hid (hX.wide HB_wc4a.out.size)
          clear hb hmap hC hF hX
          refine hK.out _ _ (HS.out _ HB_wc5a.out) (fun hHeld => ?_)
          clear hK K
          try simp only [Act.put, List.setIfInBounds_toArray, List.set_cons_zero, List.set_cons_succ]
          refine wpAnyH_take (i := 12) (v := ?_) (by first | (simp only [List.getElem?_toArray, List.getElem?_cons_succ, List.getElem?_cons_zero]; rfl) | rfl) (by kernel_rfl) (by kernel_rfl) (by kernel_rfl) (fun _ _ _ h => h) (Or.inl ⟨by rfl, ?_⟩) (by assumption) ?_
          rotate_left 1
          · (intro w' hSw; (try dsimp only at hSw); go_simp; (try with_reducible rfl))
          try simp only [Act.put, List.setIfInBounds_toArray, List.set_cons_zero, List.set_cons_succ]
          refine wpAnyH_ready (rs := [13]) (by kernel_rfl) (by simp) ?_
          refine AllReadyH.cons (by first | (simp only [List.getElem?_toArray, List.getElem?_cons_succ, List.getElem?_cons_zero]; rfl) | rfl) (fun K hK => ?_) AllReadyH.nil
          refine step_append_x (base := W4.heap.size) (v := .slice E8 (unitS (readT s)).length g8) (xs := unitS (readT s)) (news := unitS (readT t)) rfl _ _ rfl rfl rfl HX1_wc5a.out (own_rdZ HX2_wc5a.out).1 (own_rdZ HX2_wc5a.out).2.2 (sc__oneC _) (by omega) (by omega) HB_wc5a.out.size ?_
          intro A8 xs c8 wc6a HT8 HO8 HB8
          have HB_wc6a := Lib.hid (HB_wc5a.out.trans HB8.out.1)
          have HJ3_wc6a := Lib.hid (HJ3_wc5a.out.keepX HX1_wc5a.out HB8.out.2.1)
          have HX3_wc6a := HO8
          have HG_wc6a := Lib.hid ((HB8.out.2.1 _ (lt_of_blk HG_wc5a.out) (own_ne HX1_wc5a.out HG_wc5a.out (by decide)).symm).trans HG_wc5a.out)
          refine hK.out _ _ (HS.out _ HB_wc6a.out) (fun hHeld => ?_)
          clear hK K
          try simp only [Act.put, List.setIfInBounds_toArray, List.set_cons_zero, List.set_cons_succ]
          refine wpAnyH_take (i := 14) (v := ?_) (by first | (simp only [List.getElem?_toArray, List.getElem?_cons_succ, List.getElem?_cons_zero]; rfl) | rfl) (by kernel_rfl) (by kernel_rfl) (by kernel_rfl) (fun _ _ _ h => h) (Or.inl ⟨by rfl, ?_⟩) (by assumption) ?_
          rotate_left 1
          · (intro w' hSw; (try dsimp only at hSw); go_simp; (try with_reducible rfl))
          try simp only [Act.put, List.setIfInBounds_toArray, List.set_cons_zero, List.set_cons_succ]
          refine wpAnyH_ready (rs := [16]) (by kernel_rfl) (by simp) ?_
          refine AllReadyH.cons (by first | (simp only [List.getElem?_toArray, List.getElem?_cons_succ, List.getElem?_cons_zero]; rfl) | rfl) (fun K hK => ?_) AllReadyH.nil
          have fG := cells2V HG_wc6a.out
          have lG := lt_of_blk HG_wc6a.out
          go_simp
          have hBe := (HB_wc6a.out.setCell (p := ⟨G, 0, none⟩) HGs.out (.slice A7 ts.length c7)).setCell (p := ⟨G, 1, none⟩) HGs.out (.slice A8 xs.length c8)
          refine hK.out _ _ (HS.out _ hBe) (fun hHeld => ?_)
          clear hK K
          try simp only [Act.put, List.setIfInBounds_toArray, List.set_cons_zero, List.set_cons_succ]
          refine wpAnyH_done (by kernel_rfl) ?_ _
          refine NoPanic.normal ?_
          clear hHeld fG lG
          go_wp2_with fail
          go_meet
          have g1 := set2V HG_wc6a.out (.slice A7 ts.length c7) (.slice A8 xs.length c8)
          have j0 := HJ3_wc6a.out.cell HG_wc6a.out 0 (.slice A7 ts.length c7)
          have q0 := heap_setCell_same wc6a G 0 _ _ (.slice A7 ts.length c7) HG_wc6a.out
          have j1 := j0.cell q0 1 (.slice A8 xs.length c8)
          have x0 := HX3_wc6a.out.cell (P := G) (k := 0) (own_ne HX3_wc6a.out HG_wc6a.out (by decide)) (.slice A7 ts.length c7)
          have x1 := x0.cell (P := G) (k := 1) (own_ne x0 q0 (by decide)) (.slice A8 xs.length c8)
          exact ⟨G, ts, xs, A7, c7, A8, c8, rfl, Lib.hid hBe, Lib.hid (UnAt.doc j1.own j1.inn x1), Lib.hid ⟨by rw [HT7.out, List.map_append, HM1.out, HM4_.out, List.map_append], HT8.out⟩, Lib.hid g1⟩
      · skip
        go_simp
        show K _ (wc1.alloc (.cells #[.slice none 0 0, .slice none 0 0] 33))
        obtain ⟨wc1a, hcw⟩ : ∃ x, wc1.alloc (.cells #[.slice none 0 0, .slice none 0 0] 33) = x := ⟨_, rfl⟩
        have hb : Below wc1.heap.size wc1 wc1a := by rw [← hcw]; exact (Below.refl _ _).alloc (Nat.le_refl _) _
        have hg : wc1a.heap[wc1.heap.size]? = some (.cells #[.slice none 0 0, .slice none 0 0] 33 (0, 0)) := by rw [← hcw]; exact heap_alloc_new _ _
        have hgs : W4.heap.size ≤ wc1.heap.size := HB_wc1.out.size
        rw [hcw]
        obtain ⟨G, hG⟩ : ∃ G, wc1.heap.size = G := ⟨_, rfl⟩
        rw [hG] at hg hgs
        simp only [hG]
        have HB_wc1a := Lib.hid (HB_wc1.out.trans (hb.mono HB_wc1.out.size))
        have HJ1_wc1a := Lib.hid (HJ1_wc1.out.below hb)
        have HG_wc1a := Lib.hid hg
        have HGs := Lib.hid hgs
        clear hcw hb hg hgs hG
        refine hK.out _ _ (HS.out _ HB_wc1a.out) (fun hHeld => ?_)
        clear hK K
        try simp only [Act.put, List.setIfInBounds_toArray, List.set_cons_zero, List.set_cons_succ]
        refine wpAnyH_ready (rs := [4]) (by kernel_rfl) (by simp) ?_
        refine AllReadyH.cons (by first | (simp only [List.getElem?_toArray, List.getElem?_cons_succ, List.getElem?_cons_zero]; rfl) | rfl) (fun K hK => ?_) AllReadyH.nil
        go_simp
        refine (HTy.out wc1a HB_wc1a.out).mono ?_
        rintro e wc2a ⟨hb, f4, B4, d4, E4, g4, rfl, hmap, hC, hF, hX⟩
        dsimp only
        have HB_wc2a := Lib.hid (HB_wc1a.out.trans (hb.mono HB_wc1a.out.size))
        have HJ1_wc2a := Lib.hid (HJ1_wc1a.out.below hb)
        have HG_wc2a := Lib.hid ((hb.block _ (lt_of_blk HG_wc1a.out)).trans HG_wc1a.out)
        have HJ2_wc2a := Lib.hid (JcW.told (w0 := W4) HB_wc1a.out.size hC hF)
        have HM4_ := Lib.hid hmap
        have hln4 : f4.length ≤ 65537 := by (have h3 : f4.length = gs.length := (by have := congrArg List.length hmap; simpa using this)); omega
        clear hb hmap hC hF hX
        refine hK.out _ _ (HS.out _ HB_wc2a.out) (fun hHeld => ?_)
        clear hK K
        try simp only [Act.put, List.setIfInBounds_toArray, List.set_cons_zero, List.set_cons_succ]
        refine wpAnyH_take (i := 5) (v := ?_) (by first | (simp only [List.getElem?_toArray, List.getElem?_cons_succ, List.getElem?_cons_zero]; rfl) | rfl) (by kernel_rfl) (by kernel_rfl) (by kernel_rfl) (fun _ _ _ h => h) (Or.inl ⟨by rfl, ?_⟩) (by assumption) ?_
        rotate_left 1
        · (intro w' hSw; (try dsimp only at hSw); go_simp; (try with_reducible rfl))
        try simp only [Act.put, List.setIfInBounds_toArray, List.set_cons_zero, List.set_cons_succ]
        refine wpAnyH_ready (rs := [6]) (by kernel_rfl) (by simp) ?_
        refine AllReadyH.cons (by first | (simp only [List.getElem?_toArray, List.getElem?_cons_succ, List.getElem?_cons_zero]; rfl) | rfl) (fun K hK => ?_) AllReadyH.nil
        refine step_append_y (base := W4.heap.size) (v := .slice B1 f1.length d1) (xs := f1) (news := f4) rfl _ _ rfl rfl rfl HJ1_wc2a.out.own (own_rdZ HJ2_wc2a.out.own).1 (own_rdZ HJ2_wc2a.out.own).2.2 HJ2_wc2a.out.one (by omega) (by omega) HB_wc2a.out.size ?_
        intro A7 ts c7 wc3a HT7 HO7 HB7
        have HB_wc3a := Lib.hid (HB_wc2a.out.trans HB7.out.1)
        have HJ3_wc3a := Lib.hid (HJ1_wc2a.out.app HJ2_wc2a.out HT7.out HO7.out HB7.out.2.1)
        have HG_wc3a := Lib.hid ((HB7.out.2.1 _ (lt_of_blk HG_wc2a.out) (own_ne HJ1_wc2a.out.own HG_wc2a.out (by decide)).symm).trans HG_wc2a.out)
        refine hK.out _ _ (HS.out _ HB_wc3a.out) (fun hHeld => ?_)
        clear hK K
        try simp only [Act.put, List.setIfInBounds_toArray, List.set_cons_zero, List.set_cons_succ]
        refine wpAnyH_ready (rs := [8]) (by kernel_rfl) (by simp) ?_
        refine AllReadyH.cons (by first | (simp only [List.getElem?_toArray, List.getElem?_cons_succ, List.getElem?_cons_zero]; rfl) | rfl) (fun K hK => ?_) AllReadyH.nil
        go_simp
        refine (HTx.out wc3a HB_wc3a.out).mono ?_
        rintro e wc4a ⟨hb, f8, B8, d8, E8, g8, rfl, hmap, hC, hF, hX⟩
        dsimp only
        have HB_wc4a := Lib.hid (HB_wc3a.out.trans (hb.mono HB_wc3a.out.size))
        have HJ3_wc4a := Lib.hid (HJ3_wc3a.out.below hb)
        have HG_wc4a := Lib.hid ((hb.block _ (lt_of_blk HG_wc3a.out)).trans HG_wc3a.out)
        have HX1_wc4a := Lib.hid (hX.wide HB_wc3a.out.size)
        clear hb hmap hC hF hX
        refine hK.out _ _ (HS.out _ HB_wc4a.out) (fun hHeld => ?_)
        clear hK K
        try simp only [Act.put, List.setIfInBounds_toArray, List.set_cons_zero, List.set_cons_succ]
        refine wpAnyH_take (i := 9) (v := ?_) (by first | (simp only [List.getElem?_toArray, List.getElem?_cons_succ, List.getElem?_cons_zero]; rfl) | rfl) (by kernel_rfl) (by kernel_rfl) (by kernel_rfl) (fun _ _ _ h => h) (Or.inl ⟨by rfl, ?_⟩) (by assumption) ?_
        rotate_left 1
        · (intro w' hSw; (try dsimp only at hSw); go_simp; (try with_reducible rfl))
        try simp only [Act.put, List.setIfInBounds_toArray, List.set_cons_zero, List.set_cons_succ]
        refine wpAnyH_ready (rs := [11]) (by kernel_rfl) (by simp) ?_
        refine AllReadyH.cons (by first | (simp only [List.getElem?_toArray, List.getElem?_cons_succ, List.getElem?_cons_zero]; rfl) | rfl) (fun K hK => ?_) AllReadyH.nil
        go_simp
        refine (HTy.out wc4a HB_wc4a.out).mono ?_
        rintro e wc5a ⟨hb, f11, B11, d11, E11, g11, rfl, hmap, hC, hF, hX⟩
        dsimp only
        have HB_wc5a := Lib.hid (HB_wc4a.out.trans (hb.mono HB_wc4a.out.size))
        have HJ3_wc5a := Lib.hid (HJ3_wc4a.out.below hb)
        have HX1_wc5a := Lib.hid (HX1_wc4a.out.below hb)
        have HG_wc5a := Lib.hid ((hb.block _ (lt_of_blk HG_wc4a.out)).trans HG_wc4a.out)
        have HX2_wc5a := Lib.hid (hX.wide HB_wc4a.out.size)
        clear hb hmap hC hF hX
        refine hK.out _ _ (HS.out _ HB_wc5a.out) (fun hHeld => ?_)
        clear hK K
        try simp only [Act.put, List.setIfInBounds_toArray, List.set_cons_zero, List.set_cons_succ]
        refine wpAnyH_take (i := 12) (v := ?_) (by first | (simp only [List.getElem?_toArray, List.getElem?_cons_succ, List.getElem?_cons_zero]; rfl) | rfl) (by kernel_rfl) (by kernel_rfl) (by kernel_rfl) (fun _ _ _ h => h) (Or.inl ⟨by rfl, ?_⟩) (by assumption) ?_
        rotate_left 1
        · (intro w' hSw; (try dsimp only at hSw); go_simp; (try with_reducible rfl))
        try simp only [Act.put, List.setIfInBounds_toArray, List.set_cons_zero, List.set_cons_succ]
        refine wpAnyH_ready (rs := [13]) (by kernel_rfl) (by simp) ?_
        refine AllReadyH.cons (by first | (simp only [List.getElem?_toArray, List.getElem?_cons_succ, List.getElem?_cons_zero]; rfl) | rfl) (fun K hK => ?_) AllReadyH.nil
        refine step_append_x (base := W4.heap.size) (v := .slice E8 (unitS (readT s)).length g8) (xs := unitS (readT s)) (news := unitS (readT t)) rfl _ _ rfl rfl rfl HX1_wc5a.out (own_rdZ HX2_wc5a.out).1 (own_rdZ HX2_wc5a.out).2.2 (sc__oneC _) (by omega) (by omega) HB_wc5a.out.size ?_
        intro A8 xs c8 wc6a HT8 HO8 HB8
        have HB_wc6a := Lib.hid (HB_wc5a.out.trans HB8.out.1)
        have HJ3_wc6a := Lib.hid (HJ3_wc5a.out.keepX HX1_wc5a.out HB8.out.2.1)
        have HX3_wc6a := HO8
        have HG_wc6a := Lib.hid ((HB8.out.2.1 _ (lt_of_blk HG_wc5a.out) (own_ne HX1_wc5a.out HG_wc5a.out (by decide)).symm).trans HG_wc5a.out)
        refine hK.out _ _ (HS.out _ HB_wc6a.out) (fun hHeld => ?_)
        clear hK K
        try simp only [Act.put, List.setIfInBounds_toArray, List.set_cons_zero, List.set_cons_succ]
        refine wpAnyH_take (i := 14) (v := ?_) (by first | (simp only [List.getElem?_toArray, List.getElem?_cons_succ, List.getElem?_cons_zero]; rfl) | rfl) (by kernel_rfl) (by kernel_rfl) (by kernel_rfl) (fun _ _ _ h => h) (Or.inl ⟨by rfl, ?_⟩) (by assumption) ?_
        rotate_left 1
        · (intro w' hSw; (try dsimp only at hSw); go_simp; (try with_reducible rfl))
        try simp only [Act.put, List.setIfInBounds_toArray, List.set_cons_zero, List.set_cons_succ]
        refine wpAnyH_ready (rs := [16]) (by kernel_rfl) (by simp) ?_
        refine AllReadyH.cons (by first | (simp only [List.getElem?_toArray, List.getElem?_cons_succ, List.getElem?_cons_zero]; rfl) | rfl) (fun K hK => ?_) AllReadyH.nil
        have fG := cells2V HG_wc6a.out
        have lG := lt_of_blk HG_wc6a.out
        go_simp
        have hBe := (HB_wc6a.out.setCell (p := ⟨G, 0, none⟩) HGs.out (.slice A7 ts.length c7)).setCell (p := ⟨G, 1, none⟩) HGs.out (.slice A8 xs.length c8)
        refine hK.out _ _ (HS.out _ hBe) (fun hHeld => ?_)
        clear hK K
        try simp only [Act.put, List.setIfInBounds_toArray, List.set_cons_zero, List.set_cons_succ]
        refine wpAnyH_done (by kernel_rfl) ?_ _
        refine NoPanic.normal ?_
        clear hHeld fG lG
        go_wp2_with fail
        go_meet
        have g1 := set2V HG_wc6a.out (.slice A7 ts.length c7) (.slice A8 xs.length c8)
        have j0 := HJ3_wc6a.out.cell HG_wc6a.out 0 (.slice A7 ts.length c7)
        have q0 := heap_setCell_same wc6a G 0 _ _ (.slice A7 ts.length c7) HG_wc6a.out
        have j1 := j0.cell q0 1 (.slice A8 xs.length c8)
        have x0 := HX3_wc6a.out.cell (P := G) (k := 0) (own_ne HX3_wc6a.out HG_wc6a.out (by decide)) (.slice A7 ts.length c7)
        have x1 := x0.cell (P := G) (k := 1) (own_ne x0 q0 (by decide)) (.slice A8 xs.length c8)
        exact ⟨G, ts, xs, A7, c7, A8, c8, rfl, Lib.hid hBe, Lib.hid (UnAt.doc j1.own j1.inn x1), Lib.hid ⟨by rw [HT7.out, List.map_append, HM1.out, HM4_.out, List.map_append], HT8.out⟩, Lib.hid g1⟩
    · skip
      go_simp
      show K _ (wc0.alloc (.cells #[.slice none 0 0, .slice none 0 0] 33))
      obtain ⟨wc0a, hcw⟩ : ∃ x, wc0.alloc (.cells #[.slice none 0 0, .slice none 0 0] 33) = x := ⟨_, rfl⟩
      have hb : Below wc0.heap.size wc0 wc0a := by rw [← hcw]; exact (Below.refl _ _).alloc (Nat.le_refl _) _
      have hg : wc0a.heap[wc0.heap.size]? = some (.cells #[.slice none 0 0, .slice none 0 0] 33 (0, 0)) := by rw [← hcw]; exact heap_alloc_new _ _
      have hgs : W4.heap.size ≤ wc0.heap.size := HB_wc0.out.size
      rw [hcw]
      obtain ⟨G, hG⟩ : ∃ G, wc0.heap.size = G := ⟨_, rfl⟩
      rw [hG] at hg hgs
      simp only [hG]
      have HB_wc0a := Lib.hid (HB_wc0.out.trans (hb.mono HB_wc0.out.size))
      have HG_wc0a := Lib.hid hg
      have HGs := Lib.hid hgs
      clear hcw hb hg hgs hG
      refine hK.out _ _ (HS.out _ HB_wc0a.out) (fun hHeld => ?_)
      clear hK K
      try simp only [Act.put, List.setIfInBounds_toArray, List.set_cons_zero, List.set_cons_succ]
      refine wpAnyH_ready (rs := [1]) (by kernel_rfl) (by simp) ?_
      refine AllReadyH.cons (by first | (simp only [List.getElem?_toArray, List.getElem?_cons_succ, List.getElem?_cons_zero]; rfl) | rfl) (fun K hK => ?_) AllReadyH.nil
      go_simp
      refine (HTx.out wc0a HB_wc0a.out).mono ?_
      rintro e wc1a ⟨hb, f1, B1, d1, E1, g1, rfl, hmap, hC, hF, hX⟩
      dsimp only
      have HB_wc1a := Lib.hid (HB_wc0a.out.trans (hb.mono HB_wc0a.out.size))
      have HG_wc1a := Lib.hid ((hb.block _ (lt_of_blk HG_wc0a.out)).trans HG_wc0a.out)
      have HJ1_wc1a := Lib.hid (JcW.told (w0 := W4) HB_wc0a.out.size hC hF)
      have HM1 := Lib.hid hmap
      have hln1 : f1.length ≤ 65537 := by (have h3 : f1.length = fs.length := (by have := congrArg List.length hmap; simpa using this)); omega
      clear hb hmap hC hF hX
      refine hK.out _ _ (HS.out _ HB_wc1a.out) (fun hHeld => ?_)
      clear hK K
      try simp only [Act.put, List.setIfInBounds_toArray, List.set_cons_zero, List.set_cons_succ]
      refine wpAnyH_take (i := 2) (v := ?_) (by first | (simp only [List.getElem?_toArray, List.getElem?_cons_succ, List.getElem?_cons_zero]; rfl) | rfl) (by kernel_rfl) (by kernel_rfl) (by kernel_rfl) (fun _ _ _ h => h) (Or.inl ⟨by rfl, ?_⟩) (by assumption) ?_
      rotate_left 1
      · (intro w' hSw; (try dsimp only at hSw); go_simp; (try with_reducible rfl))
      try simp only [Act.put, List.setIfInBounds_toArray, List.set_cons_zero, List.set_cons_succ]
      refine wpAnyH_ready (rs := [4]) (by kernel_rfl) (by simp) ?_
      refine AllReadyH.cons (by first | (simp only [List.getElem?_toArray, List.getElem?_cons_succ, List.getElem?_cons_zero]; rfl) | rfl) (fun K hK => ?_) AllReadyH.nil
      go_simp
      refine (HTy.out wc1a HB_wc1a.out).mono ?_
      rintro e wc2a ⟨hb, f4, B4, d4, E4, g4, rfl, hmap, hC, hF, hX⟩
      dsimp only
      have HB_wc2a := Lib.hid (HB_wc1a.out.trans (hb.mono HB_wc1a.out.size))
      have HJ1_wc2a := Lib.hid (HJ1_wc1a.out.below hb)
      have HG_wc2a := Lib.hid ((hb.block _ (lt_of_blk HG_wc1a.out)).trans HG_wc1a.out)
      have HJ2_wc2a := Lib.hid (JcW.told (w0 := W4) HB_wc1a.out.size hC hF)
      have HM4_ := Lib.hid hmap
      have hln4 : f4.length ≤ 65537 := by (have h3 : f4.length = gs.length := (by have := congrArg List.length hmap; simpa using this)); omega
      clear hb hmap hC hF hX
      refine hK.out _ _ (HS.out _ HB_wc2a.out) (fun hHeld => ?_)
      clear hK K
      try simp only [Act.put, List.setIfInBounds_toArray, List.set_cons_zero, List.set_cons_succ]
      refine wpAnyH_take (i := 5) (v := ?_) (by first | (simp only [List.getElem?_toArray, List.getElem?_cons_succ, List.getElem?_cons_zero]; rfl) | rfl) (by kernel_rfl) (by kernel_rfl) (by kernel_rfl) (fun _ _ _ h => h) (Or.inl ⟨by rfl, ?_⟩) (by assumption) ?_
      rotate_left 1
      · (intro w' hSw; (try dsimp only at hSw); go_simp; (try with_reducible rfl))
      try simp only [Act.put, List.setIfInBounds_toArray, List.set_cons_zero, List.set_cons_succ]
      refine wpAnyH_ready (rs := [6]) (by kernel_rfl) (by simp) ?_
      refine AllReadyH.cons (by first | (simp only [List.getElem?_toArray, List.getElem?_cons_succ, List.getElem?_cons_zero]; rfl) | rfl) (fun K hK => ?_) AllReadyH.nil
      refine step_append_y (base := W4.heap.size) (v := .slice B1 f1.length d1) (xs := f1) (news := f4) rfl _ _ rfl rfl rfl HJ1_wc2a.out.own (own_rdZ HJ2_wc2a.out.own).1 (own_rdZ HJ2_wc2a.out.own).2.2 HJ2_wc2a.out.one (by omega) (by omega) HB_wc2a.out.size ?_
      intro A7 ts c7 wc3a HT7 HO7 HB7
      have HB_wc3a := Lib.hid (HB_wc2a.out.trans HB7.out.1)
      have HJ3_wc3a := Lib.hid (HJ1_wc2a.out.app HJ2_wc2a.out HT7.out HO7.out HB7.out.2.1)
      have HG_wc3a := Lib.hid ((HB7.out.2.1 _ (lt_of_blk HG_wc2a.out) (own_ne HJ1_wc2a.out.own HG_wc2a.out (by decide)).symm).trans HG_wc2a.out)
      refine hK.out _ _ (HS.out _ HB_wc3a.out) (fun hHeld => ?_)
      clear hK K
      try simp only [Act.put, List.setIfInBounds_toArray, List.set_cons_zero, List.set_cons_succ]
      refine wpAnyH_ready (rs := [8]) (by kernel_rfl) (by simp) ?_
      refine AllReadyH.cons (by first | (simp only [List.getElem?_toArray, List.getElem?_cons_succ, List.getElem?_cons_zero]; rfl) | rfl) (fun K hK => ?_) AllReadyH.nil
      go_simp
      refine (HTx.out wc3a HB_wc3a.out).mono ?_
      rintro e wc4a ⟨hb, f8, B8, d8, E8, g8, rfl, hmap, hC, hF, hX⟩
      dsimp only
      have HB_wc4a := Lib.hid (HB_wc3a.out.trans (hb.mono HB_wc3a.out.size))
      have HJ3_wc4a := Lib.hid (HJ3_wc3a.out.below hb)
      have HG_wc4a := Lib.hid ((hb.block _ (lt_of_blk HG_wc3a.out)).trans HG_wc3a.out)
      have HX1_wc4a := Lib.hid (hX.wide HB_wc3a.out.size)
      clear hb hmap hC hF hX
      refine hK.out _ _ (HS.out _ HB_wc4a.out) (fun hHeld => ?_)
      clear hK K
      try simp only [Act.put, List.setIfInBounds_toArray, List.set_cons_zero, List.set_cons_succ]
      refine wpAnyH_take (i := 9) (v := ?_) (by first | (simp only [List.getElem?_toArray, List.getElem?_cons_succ, List.getElem?_cons_zero]; rfl) | rfl) (by kernel_rfl) (by kernel_rfl) (by kernel_rfl) (fun _ _ _ h => h) (Or.inl ⟨by rfl, ?_⟩) (by assumption) ?_
      rotate_left 1
      · (intro w' hSw; (try dsimp only at hSw); go_simp; (try with_reducible rfl))
      try simp only [Act.put, List.setIfInBounds_toArray, List.set_cons_zero, List.set_cons_succ]
      refine wpAnyH_ready (rs := [11]) (by kernel_rfl) (by simp) ?_
      refine AllReadyH.cons (by first | (simp only [List.getElem?_toArray, List.getElem?_cons_succ, List.getElem?_cons_zero]; rfl) | rfl) (fun K hK => ?_) AllReadyH.nil
      go_simp
      refine (HTy.out wc4a HB_wc4a.out).mono ?_
      rintro e wc5a ⟨hb, f11, B11, d11, E11, g11, rfl, hmap, hC, hF, hX⟩
      dsimp only
      have HB_wc5a := Lib.hid (HB_wc4a.out.trans (hb.mono HB_wc4a.out.size))
      have HJ3_wc5a := Lib.hid (HJ3_wc4a.out.below hb)
      have HX1_wc5a := Lib.hid (HX1_wc4a.out.below hb)
      have HG_wc5a := Lib.hid ((hb.block _ (lt_of_blk HG_wc4a.out)).trans HG_wc4a.out)
      have HX2_wc5a := Lib.hid (hX.wide HB_wc4a.out.size)
      clear hb hmap hC hF hX
      refine hK.out _ _ (HS.out _ HB_wc5a.out) (fun hHeld => ?_)
      clear hK K
      try simp only [Act.put, List.setIfInBounds_toArray, List.set_cons_zero, List.set_cons_succ]
      refine wpAnyH_take (i := 12) (v := ?_) (by first | (simp only [List.getElem?_toArray, List.getElem?_cons_succ, List.getElem?_cons_zero]; rfl) | rfl) (by kernel_rfl) (by kernel_rfl) (by kernel_rfl) (fun _ _ _ h => h) (Or.inl ⟨by rfl, ?_⟩) (by assumption) ?_
      rotate_left 1
      · (intro w' hSw; (try dsimp only at hSw); go_simp; (try with_reducible rfl))
      try simp only [Act.put, List.setIfInBounds_toArray, List.set_cons_zero, List.set_cons_succ]
      refine wpAnyH_ready (rs := [13]) (by kernel_rfl) (by simp) ?_
      refine AllReadyH.cons (by first | (simp only [List.getElem?_toArray, List.getElem?_cons_succ, List.getElem?_cons_zero]; rfl) | rfl) (fun K hK => ?_) AllReadyH.nil
      refine step_append_x (base := W4.heap.size) (v := .slice E8 (unitS (readT s)).length g8) (xs := unitS (readT s)) (news := unitS (readT t)) rfl _ _ rfl rfl rfl HX1_wc5a.out (own_rdZ HX2_wc5a.out).1 (own_rdZ HX2_wc5a.out).2.2 (sc__oneC _) (by omega) (by omega) HB_wc5a.out.size ?_
      intro A8 xs c8 wc6a HT8 HO8 HB8
      have HB_wc6a := Lib.hid (HB_wc5a.out.trans HB8.out.1)
      have HJ3_wc6a := Lib.hid (HJ3_wc5a.out.keepX HX1_wc5a.out HB8.out.2.1)
      have HX3_wc6a := HO8
      have HG_wc6a := Lib.hid ((HB8.out.2.1 _ (lt_of_blk HG_wc5a.out) (own_ne HX1_wc5a.out HG_wc5a.out (by decide)).symm).trans HG_wc5a.out)
      refine hK.out _ _ (HS.out _ HB_wc6a.out) (fun hHeld => ?_)
      clear hK K
      try simp only [Act.put, List.setIfInBounds_toArray, List.set_cons_zero, List.set_cons_succ]
      refine wpAnyH_take (i := 14) (v := ?_) (by first | (simp only [List.getElem?_toArray, List.getElem?_cons_succ, List.getElem?_cons_zero]; rfl) | rfl) (by kernel_rfl) (by kernel_rfl) (by kernel_rfl) (fun _ _ _ h => h) (Or.inl ⟨by rfl, ?_⟩) (by assumption) ?_
      rotate_left 1
      · (intro w' hSw; (try dsimp only at hSw); go_simp; (try with_reducible rfl))
      try simp only [Act.put, List.setIfInBounds_toArray, List.set_cons_zero, List.set_cons_succ]
      refine wpAnyH_ready (rs := [16]) (by kernel_rfl) (by simp) ?_
      refine AllReadyH.cons (by first | (simp only [List.getElem?_toArray, List.getElem?_cons_succ, List.getElem?_cons_zero]; rfl) | rfl) (fun K hK => ?_) AllReadyH.nil
      have fG := cells2V HG_wc6a.out
      have lG := lt_of_blk HG_wc6a.out
      go_simp
      have hBe := (HB_wc6a.out.setCell (p := ⟨G, 0, none⟩) HGs.out (.slice A7 ts.length c7)).setCell (p := ⟨G, 1, none⟩) HGs.out (.slice A8 xs.length c8)
      refine hK.out _ _ (HS.out _ hBe) (fun hHeld => ?_)
      clear hK K
      try simp only [Act.put, List.setIfInBounds_toArray, List.set_cons_zero, List.set_cons_succ]
      refine wpAnyH_done (by kernel_rfl) ?_ _
      refine NoPanic.normal ?_
      clear hHeld fG lG
      go_wp2_with fail
      go_meet
      have g1 := set2V HG_wc6a.out (.slice A7 ts.length c7) (.slice A8 xs.length c8)
      have j0 := HJ3_wc6a.out.cell HG_wc6a.out 0 (.slice A7 ts.length c7)
      have q0 := heap_setCell_same wc6a G 0 _ _ (.slice A7 ts.length c7) HG_wc6a.out
      have j1 := j0.cell q0 1 (.slice A8 xs.length c8)
      have x0 := HX3_wc6a.out.cell (P := G) (k := 0) (own_ne HX3_wc6a.out HG_wc6a.out (by decide)) (.slice A7 ts.length c7)
      have x1 := x0.cell (P := G) (k := 1) (own_ne x0 q0 (by decide)) (.slice A8 xs.length c8)
      exact ⟨G, ts, xs, A7, c7, A8, c8, rfl, Lib.hid hBe, Lib.hid (UnAt.doc j1.own j1.inn x1), Lib.hid ⟨by rw [HT7.out, List.map_append, HM1.out, HM4_.out, List.map_append], HT8.out⟩, Lib.hid g1⟩
  case rest =>
  obtain ⟨G, ts, xs, A7, c7, A8, c8, rfl, HB5, HU5, HM5, HG5⟩ := hcut
  have hEz : unitE rz = 0 := by rw [← HRZ.out.1, unitE_pre]; simpa using hz2
  have hju := unit_join (rt := readT t) (by simpa using hz2) (readT_ok (by simpa using hz2)) (unitC (readT s)) (unitS (readT s)) s2.size
  rw [HRZ.out.1] at hju
  have HJU := Lib.hid hju
  have hkl : ks.length = (unitC rz).length := by rw [← HM4.out, List.length_map]
  have HTz : Hid (∀ w', Below wc.heap.size wc w' → Calls Tryz.prog 10 #[.agg #[.slice A5 ks.length c5, .slice A6 (unitS rz).length c6]] w' (ToldPost w' ks (unitS rz))) := Lib.hid (fun w' hb => told_any w' _ _ ks (unitS rz) (HX4.out.up2 (HB5.out.trans (hb.mono HB5.out.size))) (by have := HL3.out.1; omega) (fun x hx => by have := HL3.out.2 x.1 (by rw [← HM4.out]; exact List.mem_map_of_mem hx); omega))
  have HSz : Hid (∀ w', Below wc.heap.size wc w' → (fun w' : World => w'.cell? ⟨P4, 0, none⟩ = some (.slice A5 ks.length c5) ∧ w'.cell? ⟨P4, 1, none⟩ = some (.slice A6 (unitS rz).length c6) ∧ w'.cell? ⟨G, 0, none⟩ = some (.slice A7 ts.length c7) ∧ w'.cell? ⟨G, 1, none⟩ = some (.slice A8 xs.length c8)) w') := Lib.hid (fun w' hb => by
    have f2 := cells2V ((hb.block _ (lt_of_blk ((HB5.out.block _ (lt_of_blk HQ4.out.2.2)).trans HQ4.out.2.2))).trans ((HB5.out.block _ (lt_of_blk HQ4.out.2.2)).trans HQ4.out.2.2))
    have f3 := cells2V ((hb.block _ (lt_of_blk HG5.out)).trans HG5.out)
    exact ⟨f2.1, f2.2.1, f3.1, f3.2.1⟩)
  have hkb : ks.length + (unitS rz).length ≤ 65537 := by have := HL3.out.1; omega
  have hkf : Hid (∀ x ∈ ks, x.1.2.2.1.length ≤ 4097) := Lib.hid (fun x hx => HL3.out.2 x.1 (by rw [← HM4.out]; exact List.mem_map_of_mem hx))
  have HBWc := Lib.hid (HBW4.out.trans (HB5.out.mono HBW4.out.size))
  clear hju hkl HTx HTy HS
  go_upto_region 17 with fail
  simp only [hEz]
  have HB_v0 := Lib.hid (show Below wc.heap.size wc wc.drew from (Below.refl _ _).drew)
  have hS : (fun w' : World => w'.cell? ⟨P4, 0, none⟩ = some (.slice A5 ks.length c5) ∧ w'.cell? ⟨P4, 1, none⟩ = some (.slice A6 (unitS rz).length c6) ∧ w'.cell? ⟨G, 0, none⟩ = some (.slice A7 ts.length c7) ∧ w'.cell? ⟨G, 1, none⟩ = some (.slice A8 xs.length c8)) wc.drew := HSz.out _ HB_v0.out
  obtain ⟨v0, hv0⟩ : ∃ x, wc.drew = x := ⟨_, rfl⟩
  refine wp_region_noPanic ?_
  refine wp_region_held_drew (S := (fun w' : World => w'.cell? ⟨P4, 0, none⟩ = some (.slice A5 ks.length c5) ∧ w'.cell? ⟨P4, 1, none⟩ = some (.slice A6 (unitS rz).length c6) ∧ w'.cell? ⟨G, 0, none⟩ = some (.slice A7 ts.length c7) ∧ w'.cell? ⟨G, 1, none⟩ = some (.slice A8 xs.length c8))) (by kernel_rfl) hS (fun hHeld => ?_)
  rw [hv0] at HB_v0 hHeld ⊢
  clear hS hv0
  refine wpAnyH_take (i := 0) (v := ?_) (by first | (simp only [List.getElem?_toArray, List.getElem?_cons_succ, List.getElem?_cons_zero]; rfl) | rfl) (by kernel_rfl) (by kernel_rfl) (by kernel_rfl) (fun _ _ _ h => h) (Or.inl ⟨by rfl, ?_⟩) (by assumption) ?_
  rotate_left 1
  · (intro w' hSw; (try dsimp only at hSw); go_simp; (try with_reducible rfl))
  try simp only [Act.put, List.setIfInBounds_toArray, List.set_cons_zero, List.set_cons_succ]
  refine wpAnyH_take (i := 1) (v := ?_) (by first | (simp only [List.getElem?_toArray, List.getElem?_cons_succ, List.getElem?_cons_zero]; rfl) | rfl) (by kernel_rfl) (by kernel_rfl) (by kernel_rfl) (fun _ _ _ h => h) (Or.inl ⟨by rfl, ?_⟩) (by assumption) ?_
  rotate_left 1
  · (intro w' hSw; (try dsimp only at hSw); go_simp; (try with_reducible rfl))
  try simp only [Act.put, List.setIfInBounds_toArray, List.set_cons_zero, List.set_cons_succ]
  refine wpAnyH_take (i := 2) (v := ?_) (by first | (simp only [List.getElem?_toArray, List.getElem?_cons_succ, List.getElem?_cons_zero]; rfl) | rfl) (by kernel_rfl) (by kernel_rfl) (by kernel_rfl) (fun _ _ _ h => h) (Or.inl ⟨by rfl, ?_⟩) (by assumption) ?_
  rotate_left 1
  · (intro w' hSw; (try dsimp only at hSw); go_simp; (try with_reducible rfl))
  try simp only [Act.put, List.setIfInBounds_toArray, List.set_cons_zero, List.set_cons_succ]
  refine wpAnyH_take (i := 3) (v := ?_) (by first | (simp only [List.getElem?_toArray, List.getElem?_cons_succ, List.getElem?_cons_zero]; rfl) | rfl) (by kernel_rfl) (by kernel_rfl) (by kernel_rfl) (fun _ _ _ h => h) (Or.inl ⟨by rfl, ?_⟩) (by assumption) ?_
  rotate_left 1
  · (intro w' hSw; (try dsimp only at hSw); go_simp; (try with_reducible rfl))
  try simp only [Act.put, List.setIfInBounds_toArray, List.set_cons_zero, List.set_cons_succ]
  refine wpAnyH_take (i := 5) (v := ?_) (by first | (simp only [List.getElem?_toArray, List.getElem?_cons_succ, List.getElem?_cons_zero]; rfl) | rfl) (by kernel_rfl) (by kernel_rfl) (by kernel_rfl) (fun _ _ _ h => h) (Or.inl ⟨by rfl, ?_⟩) (by assumption) ?_
  rotate_left 1
  · (intro w' hSw; (try dsimp only at hSw); go_simp; (try with_reducible rfl))
  try simp only [Act.put, List.setIfInBounds_toArray, List.set_cons_zero, List.set_cons_succ]
  refine wpAnyH_ready (rs := [4]) (by kernel_rfl) (by simp) ?_
  refine AllReadyH.cons (by first | (simp only [List.getElem?_toArray, List.getElem?_cons_succ, List.getElem?_cons_zero]; rfl) | rfl) (fun K hK => ?_) AllReadyH.nil
  go_simp
  refine (HTz.out v0 HB_v0.out).mono ?_
  rintro e v1 ⟨hb, k2, B, d, E, g, rfl, hmap, hC, hF, hX⟩
  dsimp only
  have HB_v1 := Lib.hid (HB_v0.out.trans (hb.mono HB_v0.out.size))
  have hk2 : k2.length = ks.length := by have := congrArg List.length hmap; simpa using this
  have HSm := Lib.hid (same_true v1 _ _ _ _ k2 ts (unitS rz) xs (UnAt.doc hC hF hX) (HU5.out.up2 HB_v1.out) (joins_nA (N := s2.size) (by rw [hmap, HM4.out, HJU.out.1]) (by rw [HM5.out.1, List.map_append, HF2.out, HG3.out])) (by rw [HJU.out.2, HM5.out.2]; exact joins_nS) (by omega) (fun x hx => by have h9 : x.1 ∈ ks.map (fun x => x.1) := (by rw [← hmap]; exact List.mem_map_of_mem hx); rw [List.mem_map] at h9; obtain ⟨y, hy, e9⟩ := h9; have := hkf.out y hy; rw [e9] at this; omega))
  clear hb hmap hC hF hX hk2
  refine hK.out _ _ (HSz.out _ HB_v1.out) (fun hHeld => ?_)
  clear hK K
  try simp only [Act.put, List.setIfInBounds_toArray, List.set_cons_zero, List.set_cons_succ]
  refine wpAnyH_ready (rs := [6]) (by kernel_rfl) (by simp) ?_
  refine AllReadyH.cons (by first | (simp only [List.getElem?_toArray, List.getElem?_cons_succ, List.getElem?_cons_zero]; rfl) | rfl) (fun K hK => ?_) AllReadyH.nil
  go_simp
  refine HSm.out.mono ?_
  rintro e v2 ⟨rfl, hb⟩
  dsimp only
  have HB_v2 := Lib.hid (HB_v1.out.trans (hb.mono HB_v1.out.size))
  clear hb
  refine hK.out _ _ (HSz.out _ HB_v2.out) (fun hHeld => ?_)
  clear hK K
  try simp only [Act.put, List.setIfInBounds_toArray, List.set_cons_zero, List.set_cons_succ]
  refine wpAnyH_take (i := 7) (v := ?_) (by first | (simp only [List.getElem?_toArray, List.getElem?_cons_succ, List.getElem?_cons_zero]; rfl) | rfl) (by kernel_rfl) (by kernel_rfl) (by kernel_rfl) (fun _ _ _ h => h) (Or.inl ⟨by rfl, ?_⟩) (by assumption) ?_
  rotate_left 1
  · (intro w' hSw; (try dsimp only at hSw); go_simp; (try with_reducible rfl))
  try simp only [Act.put, List.setIfInBounds_toArray, List.set_cons_zero, List.set_cons_succ]
  refine wpAnyH_take (i := 8) (v := ?_) (by first | (simp only [List.getElem?_toArray, List.getElem?_cons_succ, List.getElem?_cons_zero]; rfl) | rfl) (by kernel_rfl) (by kernel_rfl) (by kernel_rfl) (fun _ _ _ h => h) (Or.inl ⟨by rfl, ?_⟩) (by assumption) ?_
  rotate_left 1
  · (intro w' hSw; (try dsimp only at hSw); go_simp; (try with_reducible rfl))
  try simp only [Act.put, List.setIfInBounds_toArray, List.set_cons_zero, List.set_cons_succ]
  refine wpAnyH_done (by kernel_rfl) ?_ _
  refine NoPanic.normal ?_
  have hEnd := HBWc.out.trans (HB_v2.out.mono HBWc.out.size)
  clear hHeld
  go_wp2_with fail
  go_ret
  exact ⟨rfl, hEnd⟩
end Go.Proofs.YtponopcnndkalaaGreatDoor.Fl

