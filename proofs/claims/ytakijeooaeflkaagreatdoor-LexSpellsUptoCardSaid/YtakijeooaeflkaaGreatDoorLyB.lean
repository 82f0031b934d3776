/-
  The document's lexer: keywords, operators, blanks and notes.
-/
import Derived.Test.YtakijeooaeflkaaGreatDoorLyP
import Derived.Test.YtakijeooaeflkaaGreatDoorCdA
import Derived.Laws.IdiomStrings
namespace Go.Proofs.YtakijeooaeflkaaGreatDoor.Fl
open Go.RowKit

set_option maxHeartbeats 1000000 in
theorem rkeywords_any (s : ByteArray) (p : Nat) (w : World) (hs : s.size ≤ 16777216) (hp : p ≤ s.size) :
    Calls Tryz.prog 58 #[.string s, .int .i64 (p : Int)] w fun e w' => e = .returned (.int .i64 (joinW s p : Int)) ∧ w = w' := by
  obtain ⟨r, hr⟩ : ∃ r, joinW s p = r := ⟨_, rfl⟩
  rw [hr]
  have HR := Lib.hid hr
  clear hr
  go_enter Tryz.func58, Tryz.ntmps58
  go_wp2_with fail
  go_loopw [1] (fun v wr => ∃ q : Nat, q ≤ s.size ∧ v = .int .i64 (q : Int) ∧ Hid (joinW s q = r) ∧ w = wr) (fun v _ => s.size - (intOf v).toNat)
  case atStart => exact ⟨p, hp, rfl, HR, rfl⟩
  case round =>
    obtain ⟨q, hq, rfl, HQ, rfl⟩ := hrel
    have hk := rkeyword_any s q w hs hq
    have hle := keyR_le hq
    by_cases hlt : q < keyR s q
    · have HS := Lib.hid ((join_go hq hlt).symm.trans HQ.out)
      generalize keyR s q = q' at *
      go_wp2_with fail
      refine hk.mono ?_
      rintro e w' ⟨rfl, rfl⟩
      go_wp2_with fail
      refine hk.mono ?_
      rintro e w' ⟨rfl, rfl⟩
      clear hk
      go_wp2_with fail
      go_roundw
      case rel => exact ⟨q', hle.2, rfl, HS, trivial⟩
      case measure => simp [intOf]; omega
    · have HS := Lib.hid ((join_no hq hlt).symm.trans HQ.out)
      generalize keyR s q = q' at *
      have e : q' = q := by omega
      subst e
      go_wp2_with fail
      refine hk.mono ?_
      rintro e w' ⟨rfl, rfl⟩
      clear hk
      go_wp2_with fail
      go_ret
      exact ⟨by rw [← HS.out]; rfl, rfl⟩
set_option maxHeartbeats 1000000 in
theorem roper_any (s : ByteArray) (p : Nat) (w : World) (hs : s.size ≤ 16777216) (hp : p ≤ s.size) :
    Calls Tryz.prog 60 #[.string s, .int .i64 (p : Int)] w fun e w' => e = .returned (.int .i64 ((p + opF s p 2 : Nat) : Int)) ∧ w = w' := by
  obtain ⟨r, hr⟩ : ∃ r, opF s p 2 = r := ⟨_, rfl⟩
  rw [hr]
  have HR := Lib.hid ((opF_eq s p hp).symm.trans hr)
  clear hr
  go_enter Tryz.func60, Tryz.ntmps60
  by_cases h1 : p < s.size
  case neg =>
    have HE := Lib.hid (show r = 0 by rw [← HR.out, lookB_no (by omega)]; rfl)
    clear HR
    go_wp2_with fail
    go_ret
    exact ⟨by rw [HE.out]; rfl, rfl⟩
  rw [lookB_at h1] at HR
  have hdc : decide (s.size ≤ p) = false := decide_eq_false (by omega)
  have hb := s[p].toNat_lt
  by_cases h2 : s[p].toNat = 124
  · have HE := Lib.hid (HR.out.symm.trans (if_pos h2))
    have h2b : ((s[p].toNat : Int) == 124) = true := by rw [beq_iff_eq]; omega
    clear HR h2
    go_wp2_with fail
    go_ret
    exact ⟨by rw [HE.out]; rfl, rfl⟩
  have HR1 := Lib.hid (HR.out.symm.trans (if_neg h2))
  have h2b : ((s[p].toNat : Int) == 124) = false := by rw [beq_eq_false_iff_ne]; omega
  have ho := roper_is s[p].toNat w hb
  clear HR h2
  cases hv : operN s[p].toNat
  · rw [hv] at ho
    have HE := Lib.hid (HR1.out.trans (if_pos hv))
    go_wp2_with fail
    refine ho.mono ?_
    rintro e w' ⟨rfl, rfl⟩
    clear ho
    go_wp2_with fail
    go_ret
    exact ⟨by rw [HE.out]; rfl, rfl⟩
  rw [hv] at ho
  have HR2 := Lib.hid (HR1.out.trans (if_neg (by rw [hv]; decide)))
  clear HR1
  by_cases h3 : p + 1 < s.size
  case neg =>
    have HE := Lib.hid (show r = 1 by rw [HR2.out, lookB_no (by omega), if_neg (fun h => by cases h.1)])
    clear HR2
    go_wp2_with fail
    refine ho.mono ?_
    rintro e w' ⟨rfl, rfl⟩
    clear ho
    go_wp2_with fail
    go_ret
    exact ⟨by rw [HE.out]; rfl, rfl⟩
  have hb2 := s[p + 1].toNat_lt
  have ho2 := roper_is s[p + 1].toNat w hb2
  have HR3 := Lib.hid (show r = if operN s[p + 1].toNat = true ∧ s[p + 1].toNat ≠ 45 then 2 else 1 by rw [HR2.out, lookB_at h3])
  clear HR2
  cases hv2 : operN s[p + 1].toNat
  · rw [hv2] at ho2
    have HE := Lib.hid (HR3.out.trans (if_neg (fun h => by rw [hv2] at h; cases h.1)))
    go_wp2_with fail
    refine ho.mono ?_
    rintro e w' ⟨rfl, rfl⟩
    clear ho
    go_wp2_with fail
    refine ho2.mono ?_
    rintro e w' ⟨rfl, rfl⟩
    clear ho2
    go_wp2_with fail
    go_ret
    exact ⟨by rw [HE.out]; rfl, rfl⟩
  rw [hv2] at ho2
  by_cases h4 : s[p + 1].toNat = 45
  · have HE := Lib.hid (HR3.out.trans (if_neg (fun h => h.2 h4)))
    have h4b : ((s[p + 1].toNat : Int) != 45) = false := by rw [bne_eq_false_iff_eq]; omega
    clear HR3 h4
    go_wp2_with fail
    refine ho.mono ?_
    rintro e w' ⟨rfl, rfl⟩
    clear ho
    go_wp2_with fail
    refine ho2.mono ?_
    rintro e w' ⟨rfl, rfl⟩
    clear ho2
    go_wp2_with fail
    go_ret
    exact ⟨by rw [HE.out]; rfl, rfl⟩
  · have HE := Lib.hid (HR3.out.trans (if_pos ⟨hv2, h4⟩))
    have h4b : ((s[p + 1].toNat : Int) != 45) = true := by rw [bne_iff_ne]; omega
    clear HR3 h4
    go_wp2_with fail
    refine ho.mono ?_
    rintro e w' ⟨rfl, rfl⟩
    clear ho
    go_wp2_with fail
    refine ho2.mono ?_
    rintro e w' ⟨rfl, rfl⟩
    clear ho2
    go_wp2_with fail
    go_ret
    exact ⟨by rw [HE.out]; rfl, rfl⟩
/-- what Skip answers -/
def skV (r : Nat ⊕ Nat) : Value := match r with
  | .inl q => .tuple #[.int .i64 (q : Int), .bool true]
  | .inr q => .tuple #[.int .i64 (q : Int), .bool false]
set_option maxHeartbeats 1000000 in
theorem rskip_any (s : ByteArray) (p : Nat) (w : World) (hs : s.size ≤ 16777216) (hp : p ≤ s.size) :
    Calls Tryz.prog 61 #[.string s, .int .i64 (p : Int)] w fun e w' => e = .returned (skV (skipA none p ((sb s).drop p))) ∧ w = w' := by
  obtain ⟨r, hr⟩ : ∃ r, skipA none p ((sb s).drop p) = r := ⟨_, rfl⟩
  rw [hr]
  have HR := Lib.hid hr
  clear hr
  go_enter Tryz.func61, Tryz.ntmps61
  go_wp2_with fail
  go_loopw [1] (fun v wr => ∃ q : Nat, q ≤ s.size ∧ v = .int .i64 (q : Int) ∧ Hid (skipA none q ((sb s).drop q) = r) ∧ w = wr) (fun v _ => s.size - (intOf v).toNat)
  case atStart => exact ⟨p, hp, rfl, HR, rfl⟩
  case round =>
    clear HR
    obtain ⟨q, hq, rfl, HQ, rfl⟩ := hrel
    by_cases hlt : q < s.size
    case neg =>
      have e : q = s.size := by omega
      subst e
      have HE := Lib.hid (HQ.out.symm.trans (skip_last s none))
      clear HQ
      go_wp2_with fail
      go_ret2
      exact ⟨by rw [HE.out]; rfl, rfl⟩
    have hb := s[q].toNat_lt
    cases hbl : blankN s[q].toNat
    · have hn : ¬ (s[q].toNat = 32) ∧ ¬ (s[q].toNat = 9) ∧ ¬ (s[q].toNat = 10) ∧ ¬ (s[q].toNat = 13) := by
        unfold blankN at hbl
        simp at hbl
        omega
      have e1 : ((s[q].toNat : Int) == 32) = false := by rw [beq_eq_false_iff_ne]; omega
      have e2 : ((s[q].toNat : Int) == 9) = false := by rw [beq_eq_false_iff_ne]; omega
      have e3 : ((s[q].toNat : Int) == 10) = false := by rw [beq_eq_false_iff_ne]; omega
      have e4 : ((s[q].toNat : Int) == 13) = false := by rw [beq_eq_false_iff_ne]; omega
      by_cases h34 : s[q].toNat = 34
      · have HN := Lib.hid ((skip_begin hlt h34).symm.trans HQ.out)
        have e5 : ((s[q].toNat : Int) != 34) = false := by rw [bne_eq_false_iff_eq]; omega
        clear HQ hn h34
        go_wp2_with fail
        go_loopw [7] (fun v wr => ∃ t : Nat, q < t ∧ t ≤ s.size ∧ v = .int .i64 (t : Int) ∧ Hid (skipA (some q) t ((sb s).drop t) = r) ∧ w = wr) (fun v _ => s.size - (intOf v).toNat)
        case atStart => exact ⟨q + 1, by omega, hlt, rfl, HN, rfl⟩
        case round =>
          clear HN
          obtain ⟨t, hqt, ht, rfl, HT, rfl⟩ := hrel
          by_cases hlt2 : t < s.size
          case neg =>
            have e : t = s.size := by omega
            subst e
            have HE := Lib.hid (HT.out.symm.trans (skip_last s (some q)))
            clear HT
            go_wp2_with fail
            go_ret2
            exact ⟨by rw [HE.out]; rfl, rfl⟩
          have hb2 := s[t].toNat_lt
          by_cases h2 : s[t].toNat = 34
          · have HS := Lib.hid ((note_end hlt2 h2).symm.trans HT.out)
            have f1 : ((s[t].toNat : Int) != 34) = false := by rw [bne_eq_false_iff_eq]; omega
            have f2 : ((t : Int) == (s.size : Int)) = false := by rw [beq_eq_false_iff_ne]; omega
            clear HT h2
            go_wp2_with fail
            go_roundw
            case rel => exact ⟨t + 1, hlt2, rfl, HS, trivial⟩
            case measure => simp [intOf]; omega
          · have HS := Lib.hid ((note_go hlt2 h2).symm.trans HT.out)
            have f1 : ((s[t].toNat : Int) != 34) = true := by rw [bne_iff_ne]; omega
            clear HT h2
            go_wp2_with fail
            go_roundw
            case rel => exact ⟨t + 1, by omega, hlt2, rfl, HS, trivial⟩
            case measure => simp [intOf]; omega
      · have HE := Lib.hid (HQ.out.symm.trans (skip_here hlt hbl h34))
        have e5 : ((s[q].toNat : Int) != 34) = true := by rw [bne_iff_ne]; omega
        clear HQ hn h34
        go_wp2_with fail
        go_ret2
        exact ⟨by rw [HE.out]; rfl, rfl⟩
    · have hn : s[q].toNat = 32 ∨ s[q].toNat = 9 ∨ s[q].toNat = 10 ∨ s[q].toNat = 13 := by
        unfold blankN at hbl
        simp at hbl
        omega
      have HS := Lib.hid ((skip_blank hlt hbl).symm.trans HQ.out)
      rcases hn with h | h | h | h
      · have e1 : ((s[q].toNat : Int) == 32) = true := by rw [beq_iff_eq]; omega
        clear h
        go_wp2_with fail
        go_roundw
        case rel => exact ⟨q + 1, hlt, rfl, HS, trivial⟩
        case measure => simp [intOf]; omega
      · have e1 : ((s[q].toNat : Int) == 32) = false := by rw [beq_eq_false_iff_ne]; omega
        have e2 : ((s[q].toNat : Int) == 9) = true := by rw [beq_iff_eq]; omega
        clear h
        go_wp2_with fail
        go_roundw
        case rel => exact ⟨q + 1, hlt, rfl, HS, trivial⟩
        case measure => simp [intOf]; omega
      · have e1 : ((s[q].toNat : Int) == 32) = false := by rw [beq_eq_false_iff_ne]; omega
        have e2 : ((s[q].toNat : Int) == 9) = false := by rw [beq_eq_false_iff_ne]; omega
        have e3 : ((s[q].toNat : Int) == 10) = true := by rw [beq_iff_eq]; omega
        clear h
        go_wp2_with fail
        go_roundw
        case rel => exact ⟨q + 1, hlt, rfl, HS, trivial⟩
        case measure => simp [intOf]; omega
      · have e1 : ((s[q].toNat : Int) == 32) = false := by rw [beq_eq_false_iff_ne]; omega
        have e2 : ((s[q].toNat : Int) == 9) = false := by rw [beq_eq_false_iff_ne]; omega
        have e3 : ((s[q].toNat : Int) == 10) = false := by rw [beq_eq_false_iff_ne]; omega
        have e4 : ((s[q].toNat : Int) == 13) = true := by rw [beq_iff_eq]; omega
        clear h
        go_wp2_with fail
        go_roundw
        case rel => exact ⟨q + 1, hlt, rfl, HS, trivial⟩
        case measure => simp [intOf]; omega
end Go.Proofs.YtakijeooaeflkaaGreatDoor.Fl

/-
  The document's lexer: texts between quotes, both ways.
-/
namespace Go.Proofs.YtakijeooaeflkaaGreatDoor.Fl
open Go.RowKit

theorem conv_back {w : World} {B : Nat} {A : Option Addr} {xs : List UInt8} (c : Nat) (hr : Rd w B A (cb xs)) : (convert 92 9 (.slice A xs.length c)).run Tryz.prog w = .ok (.string (mkB xs)) w := by
  rcases hr with h | ⟨b, off, rfl, _, hc⟩
  · have h1 : xs = [] := by
      have := congrArg List.length h
      rw [cbC_len] at this
      exact List.eq_nil_of_length_eq_zero this
    subst h1
    have h0 := run_convert_bytes_string (P := Tryz.prog) w 92 9 5 A 0 c Tryz.underlying92 Tryz.underlying5 Tryz.underlying9
    rw [show ([] : List UInt8).length = 0 from rfl, h0]
    cases A <;> simp [Conv.bytesToString, loadCells] <;> rfl
  · refine run_convert_bytes_back w 92 9 5 ⟨b, off, none⟩ c xs Tryz.underlying92 Tryz.underlying5 Tryz.underlying9 (fun j hj => ?_)
    have e : (⟨b, off, none⟩ : Addr).add j = ⟨b, off + j, none⟩ := by unfold Addr.add; split <;> simp_all
    rw [e]
    exact hc j _ (by simp [cb, List.getElem?_map, List.getElem?_eq_getElem hj])
def TxtPost (s : ByteArray) (p : Nat) (r : Option (List UInt8 × Nat)) (w : World) (e : Ending) (w' : World) : Prop :=
  Below w.heap.size w w' ∧ ((r = none ∧ e = .returned (.tuple #[.string ⟨#[]⟩, .int .i64 (p : Int), .bool false])) ∨ ∃ t q, r = some (t, q) ∧ p + 1 < q ∧ q ≤ s.size ∧ t.length ≤ s.size ∧ e = .returned (.tuple #[.string (mkB t), .int .i64 (q : Int), .bool true]))
set_option maxRecDepth 100000 in
set_option maxHeartbeats 4000000 in
theorem rtext_s (s : ByteArray) (p : Nat) (w : World) (hs : s.size ≤ 16777216) (hp : p < s.size) :
    Calls Tryz.prog 66 #[.string s, .int .i64 (p : Int)] w (TxtPost s p (txtA (p + 1) [] ((sb s).drop (p + 1))) w) := by
  obtain ⟨r, hr⟩ : ∃ r, txtA (p + 1) [] ((sb s).drop (p + 1)) = r := ⟨_, rfl⟩
  rw [hr]
  have HR := Lib.hid hr
  clear hr
  go_enter Tryz.func66, Tryz.ntmps66
  go_wp2_with fail
  go_loopw [7, 8] (fun v7 v8 wr => ∃ (q : Nat) (A : Option Addr) (c : Nat) (ts : List UInt8), p < q ∧ q ≤ s.size ∧ v7 = .slice A ts.length c ∧ v8 = .int .i64 (q : Int) ∧ ts.length ≤ q ∧ Hid (txtA q ts ((sb s).drop q) = r) ∧ Hid (OwnB wr w.heap.size (.slice A ts.length c) ts) ∧ Hid (Below w.heap.size w wr)) (fun _ v8 _ => s.size - (intOf v8).toNat)
  case atStart => exact ⟨p + 1, none, 0, [], by omega, hp, rfl, rfl, Nat.zero_le _, HR, Lib.hid (ownB_nil _ _), Lib.hid (Below.refl _ _)⟩
  case round =>
    clear HR
    obtain ⟨q, A, c, ts, hpq, hq, rfl, rfl, hts, HT, HO, HB⟩ := hrel
    by_cases hlt : q < s.size
    case neg =>
      have HE := Lib.hid (HT.out.symm.trans (txt_end (by omega)))
      clear HT
      go_wp2_with fail
      go_ret3
      exact ⟨HB.out, .inl ⟨HE.out, rfl⟩⟩
    have hb8 := s[q].toNat_lt
    have hbs := HB.out.size
    by_cases h39 : s[q].toNat = 39
    · have e1 : ((s[q].toNat : Int) == 39) = true := by rw [beq_iff_eq]; omega
      by_cases h2 : lookB s (q + 1) = 39
      · have hq1 : q + 1 < s.size := by
          rcases Nat.lt_or_ge (q + 1) s.size with h | h
          · exact h
          · rw [lookB_no h] at h2; omega
        rw [lookB_at hq1] at h2
        have e2 : ((s[q + 1].toNat : Int) == 39) = true := by rw [beq_iff_eq]; omega
        have HT2 := Lib.hid ((txt_two hq1 h39 h2).symm.trans HT.out)
        have HR1 := Lib.hid (show Rd (wr.alloc (.cells #[.int .u8 39] 5)) (wr.alloc (.cells #[.int .u8 39] 5)).heap.size (some ⟨wr.heap.size, 0, none⟩) (cb [39]) from rd_oneB wr 39)
        have hba : Below wr.heap.size wr (wr.alloc (.cells #[.int .u8 39] 5)) := (Below.refl _ _).alloc (Nat.le_refl _) _
        have HO2 := Lib.hid (HO.out.below hba)
        have HB2 := Lib.hid (HB.out.trans (hba.mono HB.out.size))
        clear HT h39 h2 hba
        go_wp2_with (at_builtin; refine wpList_append_u (base := w.heap.size) (v := .slice A ts.length c) (xs := ts) (news := [39]) rfl _ _ rfl rfl rfl HO2.out HR1.out (fun h => by cases h) (by omega) (by simp) (by rw [World.size_alloc]; omega) ?_; intro A4 t4 c4 w4 HT4 HO4 HB4)
        have HB5 := Lib.hid (HB2.out.trans HB4.out.1)
        have hl4 : t4.length ≤ q + 2 := by rw [HT4.out, List.length_append]; simp; omega
        have HT5 : Hid (txtA (q + 2) t4 ((sb s).drop (q + 2)) = r) := Lib.hid (by rw [HT4.out]; exact HT2.out)
        go_roundw
        case rel => exact ⟨q + 2, A4, c4, t4, by omega, by omega, rfl, rfl, hl4, HT5, HO4, HB5⟩
        case measure => simp [intOf]; omega
      · have HE := Lib.hid (HT.out.symm.trans (txt_stop hlt h39 h2))
        obtain ⟨hrd, _, _, hcc⟩ := ownB_rd HO.out
        have hcv := conv_back c hrd
        have HL := Lib.hid (show ts.length ≤ s.size by omega)
        have HB2 := Lib.hid HB.out
        by_cases hq1 : q + 1 < s.size
        · rw [lookB_at hq1] at h2
          have e2 : ((s[q + 1].toNat : Int) == 39) = false := by rw [beq_eq_false_iff_ne]; omega
          clear HT h39 h2 hrd hcc
          go_wp2_with fail
          go_ret3
          exact ⟨HB2.out, .inr ⟨ts, q + 1, HE.out, by omega, by omega, HL.out, rfl⟩⟩
        · clear HT h39 h2 hrd hcc
          go_wp2_with fail
          go_ret3
          exact ⟨HB2.out, .inr ⟨ts, q + 1, HE.out, by omega, by omega, HL.out, rfl⟩⟩
    · have e1 : ((s[q].toNat : Int) == 39) = false := by rw [beq_eq_false_iff_ne]; omega
      have HT2 := Lib.hid ((txt_go hlt h39).symm.trans HT.out)
      have HR1 := Lib.hid (rd_oneB wr s[q])
      have hba : Below wr.heap.size wr (wr.alloc (.cells #[.int .u8 (s[q].toNat : Int)] 5)) := (Below.refl _ _).alloc (Nat.le_refl _) _
      have HO2 := Lib.hid (HO.out.below hba)
      have HB2 := Lib.hid (HB.out.trans (hba.mono HB.out.size))
      clear HT h39 hba
      go_wp2_with (at_builtin; refine wpList_append_u (base := w.heap.size) (v := .slice A ts.length c) (xs := ts) (news := [s[q]]) rfl _ _ rfl rfl rfl HO2.out HR1.out (fun h => by cases h) (by omega) (by simp) (by rw [World.size_alloc]; omega) ?_; intro A4 t4 c4 w4 HT4 HO4 HB4)
      have HB5 := Lib.hid (HB2.out.trans HB4.out.1)
      have hl4 : t4.length ≤ q + 1 := by rw [HT4.out, List.length_append]; simp; omega
      have HT5 : Hid (txtA (q + 1) t4 ((sb s).drop (q + 1)) = r) := Lib.hid (by rw [HT4.out]; exact HT2.out)
      go_roundw
      case rel => exact ⟨q + 1, A4, c4, t4, by omega, hlt, rfl, rfl, hl4, HT5, HO4, HB5⟩
      case measure => simp [intOf]; omega
theorem dbl_app : ∀ (l : List UInt8) (c : UInt8), dbl (l ++ [c]) = dbl l ++ (if c = 39 then [39, 39] else [c])
  | [], c => by
    show (if c = 39 then 39 :: 39 :: dbl [] else c :: dbl []) = [] ++ _
    split <;> rfl
  | d :: l, c => by
    rw [List.cons_append, dbl, dbl, dbl_app l c]
    split <;> rfl
set_option maxRecDepth 100000 in
set_option maxHeartbeats 4000000 in
theorem rquote_any (s : ByteArray) (w : World) (hs : s.size ≤ 16777216) :
    Calls Tryz.prog 28 #[.string s] w fun e w' => e = .returned (.string (mkB (quoL (sb s)))) ∧ Below w.heap.size w w' := by
  have hq0 : OwnB (w.alloc (.cells #[.int .u8 39] 5)) w.heap.size (.slice (some ⟨w.heap.size, 0, none⟩) 1 1) [39] :=
    ⟨rfl, .inr ⟨w.heap.size, 1, #[.int .u8 39], rfl, Nat.le_refl _, heap_alloc_new w _, Nat.le_refl _, by unfold maxLen; omega, rfl, rfl⟩⟩
  have hb0 : Below w.heap.size w (w.alloc (.cells #[.int .u8 39] 5)) := (Below.refl _ _).alloc (Nat.le_refl _) _
  have HQ0 := Lib.hid hq0
  have HB0 := Lib.hid hb0
  clear hq0 hb0
  go_enter Tryz.func28, Tryz.ntmps28
  go_wp2_with fail
  go_loopw [3, 4] (fun v3 v4 wr => ∃ (q : Nat) (A : Option Addr) (c : Nat) (ts : List UInt8), q ≤ s.size ∧ v3 = .slice A ts.length c ∧ v4 = .int .i64 (q : Int) ∧ ts.length ≤ 2 * q + 1 ∧ Hid (ts = 39 :: dbl ((sb s).take q)) ∧ Hid (OwnB wr w.heap.size (.slice A ts.length c) ts) ∧ Hid (Below w.heap.size w wr)) (fun _ v4 _ => s.size - (intOf v4).toNat)
  case atStart => exact ⟨0, _, 1, [39], Nat.zero_le _, rfl, rfl, Nat.le_refl _, Lib.hid rfl, HQ0, HB0⟩
  case round =>
    clear HQ0 HB0
    obtain ⟨q, A, c, ts, hq, rfl, rfl, hts, HT, HO, HB⟩ := hrel
    have hbs := HB.out.size
    by_cases hlt : q < s.size
    case neg =>
      have e : q = s.size := by omega
      subst e
      have HR1 := Lib.hid (show Rd (wr.alloc (.cells #[.int .u8 39] 5)) (wr.alloc (.cells #[.int .u8 39] 5)).heap.size (some ⟨wr.heap.size, 0, none⟩) (cb [39]) from rd_oneB wr 39)
      have hba : Below wr.heap.size wr (wr.alloc (.cells #[.int .u8 39] 5)) := (Below.refl _ _).alloc (Nat.le_refl _) _
      have HO2 := Lib.hid (HO.out.below hba)
      have HB2 := Lib.hid (HB.out.trans (hba.mono HB.out.size))
      clear hba
      go_wp2_with (at_builtin; refine wpList_append_u (base := w.heap.size) (v := .slice A ts.length c) (xs := ts) (news := [39]) rfl _ _ rfl rfl rfl HO2.out HR1.out (fun h => by cases h) (by omega) (by simp) (by rw [World.size_alloc]; omega) ?_; intro A4 t4 c4 w4 HT4 HO4 HB4; have hcv := conv_back c4 (ownB_rd HO4.out).1)
      go_ret
      refine ⟨?_, HB2.out.trans HB4.out.1⟩
      rw [HT4.out, HT.out, sb_all]
      rfl
    have hb8 := s[q].toNat_lt
    have hdt : dbl ((sb s).take (q + 1)) = dbl ((sb s).take q) ++ (if s[q] = 39 then [39, 39] else [s[q]]) := by rw [sb_take s q hlt, dbl_app]
    have hba2 : Below wr.heap.size wr (wr.alloc (.cells #[.int .u8 (s[q].toNat : Int)] 5)) := (Below.refl _ _).alloc (Nat.le_refl _) _
    by_cases h39 : s[q].toNat = 39
    · have e1 : ((s[q].toNat : Int) == 39) = true := by rw [beq_iff_eq]; omega
      have HD := Lib.hid (hdt.trans (by rw [if_pos (UInt8.toNat_inj.1 h39)]))
      have HC := Lib.hid (show s[q] = 39 from UInt8.toNat_inj.1 h39)
      have HR1 := Lib.hid (show Rd (wr.alloc (.cells #[.int .u8 39] 5)) (wr.alloc (.cells #[.int .u8 39] 5)).heap.size (some ⟨wr.heap.size, 0, none⟩) (cb [39]) from rd_oneB wr 39)
      have hba : Below wr.heap.size wr (wr.alloc (.cells #[.int .u8 39] 5)) := (Below.refl _ _).alloc (Nat.le_refl _) _
      have HO2 := Lib.hid (HO.out.below hba)
      have HB2 := Lib.hid (HB.out.trans (hba.mono HB.out.size))
      clear hdt h39 hba hba2
      go_upto_region 7 with (at_builtin; refine wpList_append_u (base := w.heap.size) (v := .slice A ts.length c) (xs := ts) (news := [39]) rfl _ _ rfl rfl rfl HO2.out HR1.out (fun h => by cases h) (by omega) (by simp) (by rw [World.size_alloc]; omega) ?_; intro A4 t4 c4 w4 HT4 HO4 HB4)
      have HB5 := Lib.hid (HB2.out.trans HB4.out.1)
      have hl4 : t4.length ≤ 2 * q + 2 := by rw [HT4.out, List.length_append]; simp; omega
      have hbs5 := HB5.out.size
      have HR5 := Lib.hid (rd_oneB w4 s[q])
      have hba5 : Below w4.heap.size w4 (w4.alloc (.cells #[.int .u8 (s[q].toNat : Int)] 5)) := (Below.refl _ _).alloc (Nat.le_refl _) _
      have HO5 := Lib.hid (HO4.out.below hba5)
      have HB6 := Lib.hid (HB5.out.trans (hba5.mono HB5.out.size))
      clear hba5
      go_wp2_with (at_builtin; refine wpList_append_u (base := w.heap.size) (v := .slice A4 t4.length c4) (xs := t4) (news := [s[q]]) rfl _ _ rfl rfl rfl HO5.out HR5.out (fun h => by cases h) (by omega) (by simp) (by rw [World.size_alloc]; omega) ?_; intro A7 t7 c7 w7 HT7 HO7 HB7)
      have HB8 := Lib.hid (HB6.out.trans HB7.out.1)
      have hl7 : t7.length ≤ 2 * (q + 1) + 1 := by rw [HT7.out, List.length_append]; simp; omega
      have HT8 : Hid (t7 = 39 :: dbl ((sb s).take (q + 1))) := Lib.hid (by rw [HT7.out, HT4.out, HT.out, HD.out, HC.out]; simp)
      go_roundw
      case rel => exact ⟨q + 1, A7, c7, t7, hlt, rfl, rfl, hl7, HT8, HO7, HB8⟩
      case measure => simp [intOf]; omega
    · have e1 : ((s[q].toNat : Int) == 39) = false := by rw [beq_eq_false_iff_ne]; omega
      have HD := Lib.hid (hdt.trans (by rw [if_neg (fun e => h39 (by rw [e]; rfl))]))
      have HR5 := Lib.hid (rd_oneB wr s[q])
      have HO5 := Lib.hid (HO.out.below hba2)
      have HB6 := Lib.hid (HB.out.trans (hba2.mono HB.out.size))
      clear hdt h39 hba2
      go_wp2_with (at_builtin; refine wpList_append_u (base := w.heap.size) (v := .slice A ts.length c) (xs := ts) (news := [s[q]]) rfl _ _ rfl rfl rfl HO5.out HR5.out (fun h => by cases h) (by omega) (by simp) (by rw [World.size_alloc]; omega) ?_; intro A7 t7 c7 w7 HT7 HO7 HB7)
      have HB8 := Lib.hid (HB6.out.trans HB7.out.1)
      have hl7 : t7.length ≤ 2 * (q + 1) + 1 := by rw [HT7.out, List.length_append]; simp; omega
      have HT8 : Hid (t7 = 39 :: dbl ((sb s).take (q + 1))) := Lib.hid (by rw [HT7.out, HT.out, HD.out]; simp)
      go_roundw
      case rel => exact ⟨q + 1, A7, c7, t7, hlt, rfl, rfl, hl7, HT8, HO7, HB8⟩
      case measure => simp [intOf]; omega
end Go.Proofs.YtakijeooaeflkaaGreatDoor.Fl
