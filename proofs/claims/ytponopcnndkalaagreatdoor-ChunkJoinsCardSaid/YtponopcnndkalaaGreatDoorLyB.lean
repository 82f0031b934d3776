/-
  The document's lexer: keywords, operators, blanks and notes.
-/
import Derived.Test.YtponopcnndkalaaGreatDoorLyP
import Derived.Test.YtponopcnndkalaaGreatDoorCdA
import Derived.Laws.IdiomStrings
import Derived.Test.YtponopcnndkalaaGreatDoorLxN
namespace Go.Proofs.YtponopcnndkalaaGreatDoor.Fl
open Go.RowKit

set_option maxHeartbeats 1000000 in
theorem rkeywords_any (s : ByteArray) (p : Nat) (w : World) (hs : s.size ≤ 16777216) (hp : p ≤ s.size) :
    Calls Tryz.prog 82 #[.string s, .int .i64 (p : Int)] w fun e w' => e = .returned (.int .i64 (joinW s p : Int)) ∧ w = w' := by
  obtain ⟨r, hr⟩ : ∃ r, joinW s p = r := ⟨_, rfl⟩
  rw [hr]
  have HR := Lib.hid hr
  clear hr
  go_enter Tryz.func82, Tryz.ntmps82
  go_wp2_with fail
  go_loopw [1] (fun v wr => ∃ q : Nat, q ≤ s.size ∧ v = .int .i64 (q : Int) ∧ Hid (joinW s q = r) ∧ w = wr) (fun v _ => s.size - (intOf v).toNat)
  case atStart => exact ⟨p, hp, rfl, HR, rfl⟩
  case round =>
    obtain ⟨q, hq, rfl, HQ, rfl⟩ := hrel
    have hk := rkeyword_any s q w hs hq
    have hle := keyR_le hq
    by_cases hlt : q < keyR s q
    · have HS := Lib.hid ((join_go hq hlt).symm.trans HQ.out)
      generalize keyR s q = q' at *
      go_wp2_with fail
      refine hk.mono ?_
      rintro e w' ⟨rfl, rfl⟩
      go_wp2_with fail
      refine hk.mono ?_
      rintro e w' ⟨rfl, rfl⟩
      clear hk
      go_wp2_with fail
      go_roundw
      case rel => exact ⟨q', hle.2, rfl, HS, trivial⟩
      case measure => simp [intOf]; omega
    · have HS := Lib.hid ((join_no hq hlt).symm.trans HQ.out)
      generalize keyR s q = q' at *
      have e : q' = q := by omega
      subst e
      go_wp2_with fail
      refine hk.mono ?_
      rintro e w' ⟨rfl, rfl⟩
      clear hk
      go_wp2_with fail
      go_ret
      exact ⟨by rw [← HS.out]; rfl, rfl⟩
set_option maxHeartbeats 1000000 in
theorem roper_any (s : ByteArray) (p : Nat) (w : World) (hs : s.size ≤ 16777216) (hp : p ≤ s.size) :
    Calls Tryz.prog 70 #[.string s, .int .i64 (p : Int)] w fun e w' => e = .returned (.int .i64 ((p + opF s p 2 : Nat) : Int)) ∧ w = w' := by
  obtain ⟨r, hr⟩ : ∃ r, opF s p 2 = r := ⟨_, rfl⟩
  rw [hr]
  have HR := Lib.hid ((opF_eq s p hp).symm.trans hr)
  clear hr
  go_enter Tryz.func70, Tryz.ntmps70
  by_cases h1 : p < s.size
  case neg =>
    have HE := Lib.hid (show r = 0 by rw [← HR.out, lookB_no (by omega)]; rfl)
    clear HR
    go_wp2_with fail
    go_ret
    exact ⟨by rw [HE.out]; rfl, rfl⟩
  rw [lookB_at h1] at HR
  have hdc : decide (s.size ≤ p) = false := decide_eq_false (by omega)
  have hb := s[p].toNat_lt
  by_cases h2 : s[p].toNat = 124
  · have HE := Lib.hid (HR.out.symm.trans (if_pos h2))
    have h2b : ((s[p].toNat : Int) == 124) = true := by rw [beq_iff_eq]; omega
    clear HR h2
    go_wp2_with fail
    go_ret
    exact ⟨by rw [HE.out]; rfl, rfl⟩
  have HR1 := Lib.hid (HR.out.symm.trans (if_neg h2))
  have h2b : ((s[p].toNat : Int) == 124) = false := by rw [beq_eq_false_iff_ne]; omega
  have ho := roper_is s[p].toNat w hb
  clear HR h2
  cases hv : operN s[p].toNat
  · rw [hv] at ho
    have HE := Lib.hid (HR1.out.trans (if_pos hv))
    go_wp2_with fail
    refine ho.mono ?_
    rintro e w' ⟨rfl, rfl⟩
    clear ho
    go_wp2_with fail
    go_ret
    exact ⟨by rw [HE.out]; rfl, rfl⟩
  rw [hv] at ho
  have HR2 := Lib.hid (HR1.out.trans (if_neg (by rw [hv]; decide)))
  clear HR1
  by_cases h3 : p + 1 < s.size
  case neg =>
    have HE := Lib.hid (show r = 1 by rw [HR2.out, lookB_no (by omega), if_neg (fun h => by cases h.1)])
    clear HR2
    go_wp2_with fail
    refine ho.mono ?_
    rintro e w' ⟨rfl, rfl⟩
    clear ho
    go_wp2_with fail
    go_ret
    exact ⟨by rw [HE.out]; rfl, rfl⟩
  have hb2 := s[p + 1].toNat_lt
  have ho2 := roper_is s[p + 1].toNat w hb2
  have HR3 := Lib.hid (show r = if operN s[p + 1].toNat = true ∧ s[p + 1].toNat ≠ 45 then 2 else 1 by rw [HR2.out, lookB_at h3])
  clear HR2
  cases hv2 : operN s[p + 1].toNat
  · rw [hv2] at ho2
    have HE := Lib.hid (HR3.out.trans (if_neg (fun h => by rw [hv2] at h; cases h.1)))
    go_wp2_with fail
    refine ho.mono ?_
    rintro e w' ⟨rfl, rfl⟩
    clear ho
    go_wp2_with fail
    refine ho2.mono ?_
    rintro e w' ⟨rfl, rfl⟩
    clear ho2
    go_wp2_with fail
    go_ret
    exact ⟨by rw [HE.out]; rfl, rfl⟩
  rw [hv2] at ho2
  by_cases h4 : s[p + 1].toNat = 45
  · have HE := Lib.hid (HR3.out.trans (if_neg (fun h => h.2 h4)))
    have h4b : ((s[p + 1].toNat : Int) != 45) = false := by rw [bne_eq_false_iff_eq]; omega
    clear HR3 h4
    go_wp2_with fail
    refine ho.mono ?_
    rintro e w' ⟨rfl, rfl⟩
    clear ho
    go_wp2_with fail
    refine ho2.mono ?_
    rintro e w' ⟨rfl, rfl⟩
    clear ho2
    go_wp2_with fail
    go_ret
    exact ⟨by rw [HE.out]; rfl, rfl⟩
  · have HE := Lib.hid (HR3.out.trans (if_pos ⟨hv2, h4⟩))
    have h4b : ((s[p + 1].toNat : Int) != 45) = true := by rw [bne_iff_ne]; omega
    clear HR3 h4
    go_wp2_with fail
    refine ho.mono ?_
    rintro e w' ⟨rfl, rfl⟩
    clear ho
    go_wp2_with fail
    refine ho2.mono ?_
    rintro e w' ⟨rfl, rfl⟩
    clear ho2
    go_wp2_with fail
    go_ret
    exact ⟨by rw [HE.out]; rfl, rfl⟩
/-- what Skip answers -/
def skV (r : Nat ⊕ Nat) : Value := match r with
  | .inl q => .tuple #[.int .i64 (q : Int), .bool true]
  | .inr q => .tuple #[.int .i64 (q : Int), .bool false]
set_option maxHeartbeats 1000000 in
theorem rskip_any (s : ByteArray) (p : Nat) (w : World) (hs : s.size ≤ 16777216) (hp : p ≤ s.size) :
    Calls Tryz.prog 62 #[.string s, .int .i64 (p : Int)] w fun e w' => e = .returned (skV (skipA none p ((sb s).drop p))) ∧ w = w' := by
  obtain ⟨r, hr⟩ : ∃ r, skipA none p ((sb s).drop p) = r := ⟨_, rfl⟩
  rw [hr]
  have HR := Lib.hid hr
  clear hr
  go_enter Tryz.func62, Tryz.ntmps62
  go_wp2_with fail
  go_loopw [1] (fun v wr => ∃ q : Nat, q ≤ s.size ∧ v = .int .i64 (q : Int) ∧ Hid (skipA none q ((sb s).drop q) = r) ∧ w = wr) (fun v _ => s.size - (intOf v).toNat)
  case atStart => exact ⟨p, hp, rfl, HR, rfl⟩
  case round =>
    clear HR
    obtain ⟨q, hq, rfl, HQ, rfl⟩ := hrel
    by_cases hlt : q < s.size
    case neg =>
      have e : q = s.size := by omega
      subst e
      have HE := Lib.hid (HQ.out.symm.trans (skip_last s none))
      clear HQ
      go_wp2_with fail
      go_ret2
      exact ⟨by rw [HE.out]; rfl, rfl⟩
    have hb := s[q].toNat_lt
    cases hbl : blankN s[q].toNat
    · have hn : ¬ (s[q].toNat = 32) ∧ ¬ (s[q].toNat = 9) ∧ ¬ (s[q].toNat = 10) ∧ ¬ (s[q].toNat = 13) := by
        unfold blankN at hbl
        simp at hbl
        omega
      have e1 : ((s[q].toNat : Int) == 32) = false := by rw [beq_eq_false_iff_ne]; omega
      have e2 : ((s[q].toNat : Int) == 9) = false := by rw [beq_eq_false_iff_ne]; omega
      have e3 : ((s[q].toNat : Int) == 10) = false := by rw [beq_eq_false_iff_ne]; omega
      have e4 : ((s[q].toNat : Int) == 13) = false := by rw [beq_eq_false_iff_ne]; omega
      by_cases h34 : s[q].toNat = 34
      · have HN := Lib.hid ((skip_begin hlt h34).symm.trans HQ.out)
        have e5 : ((s[q].toNat : Int) != 34) = false := by rw [bne_eq_false_iff_eq]; omega
        clear HQ hn h34
        go_wp2_with fail
        go_loopw [7] (fun v wr => ∃ t : Nat, q < t ∧ t ≤ s.size ∧ v = .int .i64 (t : Int) ∧ Hid (skipA (some q) t ((sb s).drop t) = r) ∧ w = wr) (fun v _ => s.size - (intOf v).toNat)
        case atStart => exact ⟨q + 1, by omega, hlt, rfl, HN, rfl⟩
        case round =>
          clear HN
          obtain ⟨t, hqt, ht, rfl, HT, rfl⟩ := hrel
          by_cases hlt2 : t < s.size
          case neg =>
            have e : t = s.size := by omega
            subst e
            have HE := Lib.hid (HT.out.symm.trans (skip_last s (some q)))
            clear HT
            go_wp2_with fail
            go_ret2
            exact ⟨by rw [HE.out]; rfl, rfl⟩
          have hb2 := s[t].toNat_lt
          by_cases h2 : s[t].toNat = 34
          · have HS := Lib.hid ((note_end hlt2 h2).symm.trans HT.out)
            have f1 : ((s[t].toNat : Int) != 34) = false := by rw [bne_eq_false_iff_eq]; omega
            have f2 : ((t : Int) == (s.size : Int)) = false := by rw [beq_eq_false_iff_ne]; omega
            clear HT h2
            go_wp2_with fail
            go_roundw
            case rel => exact ⟨t + 1, hlt2, rfl, HS, trivial⟩
            case measure => simp [intOf]; omega
          · have HS := Lib.hid ((note_go hlt2 h2).symm.trans HT.out)
            have f1 : ((s[t].toNat : Int) != 34) = true := by rw [bne_iff_ne]; omega
            clear HT h2
            go_wp2_with fail
            go_roundw
            case rel => exact ⟨t + 1, by omega, hlt2, rfl, HS, trivial⟩
            case measure => simp [intOf]; omega
      · have HE := Lib.hid (HQ.out.symm.trans (skip_here hlt hbl h34))
        have e5 : ((s[q].toNat : Int) != 34) = true := by rw [bne_iff_ne]; omega
        clear HQ hn h34
        go_wp2_with fail
        go_ret2
        exact ⟨by rw [HE.out]; rfl, rfl⟩
    · have hn : s[q].toNat = 32 ∨ s[q].toNat = 9 ∨ s[q].toNat = 10 ∨ s[q].toNat = 13 := by
        unfold blankN at hbl
        simp at hbl
        omega
      have HS := Lib.hid ((skip_blank hlt hbl).symm.trans HQ.out)
      rcases hn with h | h | h | h
      · have e1 : ((s[q].toNat : Int) == 32) = true := by rw [beq_iff_eq]; omega
        clear h
        go_wp2_with fail
        go_roundw
        case rel => exact ⟨q + 1, hlt, rfl, HS, trivial⟩
        case measure => simp [intOf]; omega
      · have e1 : ((s[q].toNat : Int) == 32) = false := by rw [beq_eq_false_iff_ne]; omega
        have e2 : ((s[q].toNat : Int) == 9) = true := by rw [beq_iff_eq]; omega
        clear h
        go_wp2_with fail
        go_roundw
        case rel => exact ⟨q + 1, hlt, rfl, HS, trivial⟩
        case measure => simp [intOf]; omega
      · have e1 : ((s[q].toNat : Int) == 32) = false := by rw [beq_eq_false_iff_ne]; omega
        have e2 : ((s[q].toNat : Int) == 9) = false := by rw [beq_eq_false_iff_ne]; omega
        have e3 : ((s[q].toNat : Int) == 10) = true := by rw [beq_iff_eq]; omega
        clear h
        go_wp2_with fail
        go_roundw
        case rel => exact ⟨q + 1, hlt, rfl, HS, trivial⟩
        case measure => simp [intOf]; omega
      · have e1 : ((s[q].toNat : Int) == 32) = false := by rw [beq_eq_false_iff_ne]; omega
        have e2 : ((s[q].toNat : Int) == 9) = false := by rw [beq_eq_false_iff_ne]; omega
        have e3 : ((s[q].toNat : Int) == 10) = false := by rw [beq_eq_false_iff_ne]; omega
        have e4 : ((s[q].toNat : Int) == 13) = true := by rw [beq_iff_eq]; omega
        clear h
        go_wp2_with fail
        go_roundw
        case rel => exact ⟨q + 1, hlt, rfl, HS, trivial⟩
        case measure => simp [intOf]; omega
end Go.Proofs.YtponopcnndkalaaGreatDoor.Fl

/-
  The document's lexer: texts between quotes, both ways.
-/
namespace Go.Proofs.YtponopcnndkalaaGreatDoor.Fl
open Go.RowKit

theorem conv_back {w : World} {B : Nat} {A : Option Addr} {xs : List UInt8} (c : Nat) (hr : Rd w B A (cb xs)) : (convert 72 9 (.slice A xs.length c)).run Tryz.prog w = .ok (.string (mkB xs)) w := by
  rcases hr with h | ⟨b, off, rfl, _, hc⟩
  · have h1 : xs = [] := by
      have := congrArg List.length h
      rw [cbC_len] at this
      exact List.eq_nil_of_length_eq_zero this
    subst h1
    have h0 := run_convert_bytes_string (P := Tryz.prog) w 72 9 5 A 0 c Tryz.underlying72 Tryz.underlying5 Tryz.underlying9
    rw [show ([] : List UInt8).length = 0 from rfl, h0]
    cases A <;> simp [Conv.bytesToString, loadCells] <;> rfl
  · refine run_convert_bytes_back w 72 9 5 ⟨b, off, none⟩ c xs Tryz.underlying72 Tryz.underlying5 Tryz.underlying9 (fun j hj => ?_)
    have e : (⟨b, off, none⟩ : Addr).add j = ⟨b, off + j, none⟩ := by unfold Addr.add; split <;> simp_all
    rw [e]
    exact hc j _ (by simp [cb, List.getElem?_map, List.getElem?_eq_getElem hj])
def TxtPost (s : ByteArray) (p : Nat) (r : Option (List UInt8 × Nat)) (w : World) (e : Ending) (w' : World) : Prop :=
  Below w.heap.size w w' ∧ ((r = none ∧ e = .returned (.tuple #[.string ⟨#[]⟩, .int .i64 (p : Int), .bool false])) ∨ ∃ t q, r = some (t, q) ∧ p + 1 < q ∧ q ≤ s.size ∧ t.length ≤ s.size ∧ e = .returned (.tuple #[.string (mkB t), .int .i64 (q : Int), .bool true]))
set_option maxRecDepth 100000 in
set_option maxHeartbeats 4000000 in
theorem rtext_s (s : ByteArray) (p : Nat) (w : World) (hs : s.size ≤ 16777216) (hp : p < s.size) :
    Calls Tryz.prog 68 #[.string s, .int .i64 (p : Int)] w (TxtPost s p (txtA (p + 1) [] ((sb s).drop (p + 1))) w) := by
  obtain ⟨r, hr⟩ : ∃ r, txtA (p + 1) [] ((sb s).drop (p + 1)) = r := ⟨_, rfl⟩
  rw [hr]
  have HR := Lib.hid hr
  clear hr
  go_enter Tryz.func68, Tryz.ntmps68
  go_wp2_with fail
  go_loopw [7, 8] (fun v7 v8 wr => ∃ (q : Nat) (A : Option Addr) (c : Nat) (ts : List UInt8), p < q ∧ q ≤ s.size ∧ v7 = .slice A ts.length c ∧ v8 = .int .i64 (q : Int) ∧ ts.length ≤ q ∧ Hid (txtA q ts ((sb s).drop q) = r) ∧ Hid (OwnB wr w.heap.size (.slice A ts.length c) ts) ∧ Hid (Below w.heap.size w wr)) (fun _ v8 _ => s.size - (intOf v8).toNat)
  case atStart => exact ⟨p + 1, none, 0, [], by omega, hp, rfl, rfl, Nat.zero_le _, HR, Lib.hid (ownB_nil _ _), Lib.hid (Below.refl _ _)⟩
  case round =>
    clear HR
    obtain ⟨q, A, c, ts, hpq, hq, rfl, rfl, hts, HT, HO, HB⟩ := hrel
    by_cases hlt : q < s.size
    case neg =>
      have HE := Lib.hid (HT.out.symm.trans (txt_end (by omega)))
      clear HT
      go_wp2_with fail
      go_ret3
      exact ⟨HB.out, .inl ⟨HE.out, rfl⟩⟩
    have hb8 := s[q].toNat_lt
    have hbs := HB.out.size
    by_cases h39 : s[q].toNat = 39
    · have e1 : ((s[q].toNat : Int) == 39) = true := by rw [beq_iff_eq]; omega
      by_cases h2 : lookB s (q + 1) = 39
      · have hq1 : q + 1 < s.size := by
          rcases Nat.lt_or_ge (q + 1) s.size with h | h
          · exact h
          · rw [lookB_no h] at h2; omega
        rw [lookB_at hq1] at h2
        have e2 : ((s[q + 1].toNat : Int) == 39) = true := by rw [beq_iff_eq]; omega
        have HT2 := Lib.hid ((txt_two hq1 h39 h2).symm.trans HT.out)
        have HR1 := Lib.hid (show Rd (wr.alloc (.cells #[.int .u8 39] 5)) (wr.alloc (.cells #[.int .u8 39] 5)).heap.size (some ⟨wr.heap.size, 0, none⟩) (cb [39]) from rd_oneB wr 39)
        have hba : Below wr.heap.size wr (wr.alloc (.cells #[.int .u8 39] 5)) := (Below.refl _ _).alloc (Nat.le_refl _) _
        have HO2 := Lib.hid (HO.out.below hba)
        have HB2 := Lib.hid (HB.out.trans (hba.mono HB.out.size))
        clear HT h39 h2 hba
        go_wp2_with (at_builtin; refine wpList_append_u (base := w.heap.size) (v := .slice A ts.length c) (xs := ts) (news := [39]) rfl _ _ rfl rfl rfl HO2.out HR1.out (fun h => by cases h) (by omega) (by simp) (by rw [World.size_alloc]; omega) ?_; intro A4 t4 c4 w4 HT4 HO4 HB4)
        have HB5 := Lib.hid (HB2.out.trans HB4.out.1)
        have hl4 : t4.length ≤ q + 2 := by rw [HT4.out, List.length_append]; simp; omega
        have HT5 : Hid (txtA (q + 2) t4 ((sb s).drop (q + 2)) = r) := Lib.hid (by rw [HT4.out]; exact HT2.out)
        go_roundw
        case rel => exact ⟨q + 2, A4, c4, t4, by omega, by omega, rfl, rfl, hl4, HT5, HO4, HB5⟩
        case measure => simp [intOf]; omega
      · have HE := Lib.hid (HT.out.symm.trans (txt_stop hlt h39 h2))
        obtain ⟨hrd, _, _, hcc⟩ := ownB_rd HO.out
        have hcv := conv_back c hrd
        have HL := Lib.hid (show ts.length ≤ s.size by omega)
        have HB2 := Lib.hid HB.out
        by_cases hq1 : q + 1 < s.size
        · rw [lookB_at hq1] at h2
          have e2 : ((s[q + 1].toNat : Int) == 39) = false := by rw [beq_eq_false_iff_ne]; omega
          clear HT h39 h2 hrd hcc
          go_wp2_with fail
          go_ret3
          exact ⟨HB2.out, .inr ⟨ts, q + 1, HE.out, by omega, by omega, HL.out, rfl⟩⟩
        · clear HT h39 h2 hrd hcc
          go_wp2_with fail
          go_ret3
          exact ⟨HB2.out, .inr ⟨ts, q + 1, HE.out, by omega, by omega, HL.out, rfl⟩⟩
    · have e1 : ((s[q].toNat : Int) == 39) = false := by rw [beq_eq_false_iff_ne]; omega
      have HT2 := Lib.hid ((txt_go hlt h39).symm.trans HT.out)
      have HR1 := Lib.hid (rd_oneB wr s[q])
      have hba : Below wr.heap.size wr (wr.alloc (.cells #[.int .u8 (s[q].toNat : Int)] 5)) := (Below.refl _ _).alloc (Nat.le_refl _) _
      have HO2 := Lib.hid (HO.out.below hba)
      have HB2 := Lib.hid (HB.out.trans (hba.mono HB.out.size))
      clear HT h39 hba
      go_wp2_with (at_builtin; refine wpList_append_u (base := w.heap.size) (v := .slice A ts.length c) (xs := ts) (news := [s[q]]) rfl _ _ rfl rfl rfl HO2.out HR1.out (fun h => by cases h) (by omega) (by simp) (by rw [World.size_alloc]; omega) ?_; intro A4 t4 c4 w4 HT4 HO4 HB4)
      have HB5 := Lib.hid (HB2.out.trans HB4.out.1)
      have hl4 : t4.length ≤ q + 1 := by rw [HT4.out, List.length_append]; simp; omega
      have HT5 : Hid (txtA (q + 1) t4 ((sb s).drop (q + 1)) = r) := Lib.hid (by rw [HT4.out]; exact HT2.out)
      go_roundw
      case rel => exact ⟨q + 1, A4, c4, t4, by omega, hlt, rfl, rfl, hl4, HT5, HO4, HB5⟩
      case measure => simp [intOf]; omega
theorem dbl_app : ∀ (l : List UInt8) (c : UInt8), dbl (l ++ [c]) = dbl l ++ (if c = 39 then [39, 39] else [c])
  | [], c => by
    show (if c = 39 then 39 :: 39 :: dbl [] else c :: dbl []) = [] ++ _
    split <;> rfl
  | d :: l, c => by
    rw [List.cons_append, dbl, dbl, dbl_app l c]
    split <;> rfl
end Go.Proofs.YtponopcnndkalaaGreatDoor.Fl

/-
  The document's lexer: what a # is with.
-/
namespace Go.Proofs.YtponopcnndkalaaGreatDoor.Fl
open Go.RowKit

/-- what stands while the document's token is made -/
structure RtW (w0 w : World) (C T : Nat) (v0 v1 v2 v3 : Value) : Prop where
  tok : w.heap[T]? = some (.cells #[v0, v1, v2, v3] 90 (0, 0))
  res : w.heap[C]? = some (.cells #[.int .i64 0, .string ⟨#[]⟩, .int .i64 0, .int .i64 0] 90 (0, 0))
  bel : Below w0.heap.size w0 w
  ne : T ≠ C ∧ w0.heap.size ≤ T ∧ w0.heap.size ≤ C
theorem RtW.below {w0 w w' : World} {C T : Nat} {v0 v1 v2 v3 : Value} (h : RtW w0 w C T v0 v1 v2 v3) (hb : Below w.heap.size w w') : RtW w0 w' C T v0 v1 v2 v3 :=
  ⟨(hb.block T (lt_of_blk h.tok)).trans h.tok, (hb.block C (lt_of_blk h.res)).trans h.res, h.bel.trans (hb.mono h.bel.size), h.ne⟩
theorem RtW.set {w0 w : World} {C T : Nat} {v0 v1 v2 v3 x0 x1 x2 x3 : Value} (h : RtW w0 w C T v0 v1 v2 v3) (j : Nat) (x : Value) (hx : (#[v0, v1, v2, v3] : Array Value).setIfInBounds j x = #[x0, x1, x2, x3]) : RtW w0 (w.setCell ⟨T, j, none⟩ x) C T x0 x1 x2 x3 :=
  ⟨by rw [← hx]; exact heap_setCell_same w T j _ _ x h.tok, (Below.heap_setCell w ⟨T, j, none⟩ x C (fun e => h.ne.1 e.symm)).trans h.res, h.bel.setCell (p := ⟨T, j, none⟩) h.ne.2.1 x, h.ne⟩
theorem RtW.make (w : World) (v0 v1 v2 v3 : Value) : RtW w ((w.alloc (.cells #[.int .i64 0, .string ⟨#[]⟩, .int .i64 0, .int .i64 0] 90)).alloc (.cells #[v0, v1, v2, v3] 90)) w.heap.size (w.heap.size + 1) v0 v1 v2 v3 := by
  have h1 := heap_alloc_new w (.cells #[.int .i64 0, .string ⟨#[]⟩, .int .i64 0, .int .i64 0] 90)
  have b1 := (Below.refl w.heap.size w).alloc (Nat.le_refl _) (.cells #[.int .i64 0, .string ⟨#[]⟩, .int .i64 0, .int .i64 0] 90)
  have z1 : (w.alloc (.cells #[.int .i64 0, .string ⟨#[]⟩, .int .i64 0, .int .i64 0] 90)).heap.size = w.heap.size + 1 := World.size_alloc _ _
  generalize w.alloc (.cells #[.int .i64 0, .string ⟨#[]⟩, .int .i64 0, .int .i64 0] 90) = w1 at *
  have h2 := heap_alloc_new w1 (.cells #[v0, v1, v2, v3] 90)
  rw [z1] at h2
  have b2 : Below w1.heap.size w1 (w1.alloc (.cells #[v0, v1, v2, v3] 90)) := (Below.refl _ _).alloc (Nat.le_refl _) _
  exact ⟨h2, (b2.block _ (by omega)).trans h1, b1.trans (b2.mono b1.size), by omega, by omega, Nat.le_refl _⟩
/-- the token is handed back -/
theorem RtW.fin {w0 w : World} {C T : Nat} {v0 v1 v2 v3 : Value} (h : RtW w0 w C T v0 v1 v2 v3) (x0 x1 x2 x3 : Value) :
    ((((w.setCell ⟨C, 0, none⟩ x0).setCell ⟨C, 1, none⟩ x1).setCell ⟨C, 2, none⟩ x2).setCell ⟨C, 3, none⟩ x3).heap[C]? = some (.cells #[x0, x1, x2, x3] 90 (0, 0)) ∧
    Below w0.heap.size w0 ((((w.setCell ⟨C, 0, none⟩ x0).setCell ⟨C, 1, none⟩ x1).setCell ⟨C, 2, none⟩ x2).setCell ⟨C, 3, none⟩ x3) :=
  ⟨set4 h.res _ _ _ _, (((h.bel.setCell (p := ⟨C, 0, none⟩) h.ne.2.2 x0).setCell (p := ⟨C, 1, none⟩) h.ne.2.2 x1).setCell (p := ⟨C, 2, none⟩) h.ne.2.2 x2).setCell (p := ⟨C, 3, none⟩) h.ne.2.2 x3⟩
theorem rsym_result {W : World} {C : Nat} {v0 v1 v2 v3 u v : Value} {a : Array Value} (h : W.heap[C]? = some (.cells #[v0, v1, v2, v3] 90 (0, 0))) (h4 : a[4]?.getD undef = .pointer (some ⟨C, 0, none⟩)) (h5 : a[5]?.getD undef = u) (h6 : a[6]?.getD undef = v) :
    (results Tryz.f69 a).run Tryz.prog W = .ok (.tuple #[.agg #[v0, v1, v2, v3], u, v]) W := by
  obtain ⟨c0, c1, c2, c3, _⟩ := cells4L h
  simp [results, Tryz.results69, go_sem, h4, h5, h6, c0, c1, c2, c3]
/-- how a symbol's word is found -/
theorem sym_letter {s : ByteArray} {q : Nat} (hq : q ≤ s.size) (h : letterN (lookB s q) = true) : joinR s q ≠ q ∧ ((joinW s q ≠ q ∧ joinW s q = joinR s q) ∨ (joinW s q = q ∧ nameN s q = joinR s q)) := by
  have hlt := namedR_lt hq h
  have hle := (namedR_le hq).2
  unfold joinR
  by_cases hk : (namedR s q).1 = 2
  · have hkr : keyR s q = (namedR s q).2 := by rw [keyR_named hq, if_pos ⟨h, hk⟩]
    have hgo := join_go hq (by rw [hkr]; exact hlt)
    have := (joinW_le s (namedR s q).2 hle).1
    rw [hkr] at hgo
    rw [if_pos hk]
    exact ⟨by omega, .inl ⟨by omega, hgo⟩⟩
  · have hkr : keyR s q = q := by rw [keyR_named hq, if_neg (fun h => hk h.2)]
    rw [if_neg hk]
    refine ⟨by omega, .inr ⟨join_no hq (by omega), ?_⟩⟩
    unfold nameN
    rw [if_pos h]
    unfold namedR at hk ⊢
    split
    · next h2 => rw [if_pos h2] at hk; exact absurd rfl hk
    · rfl
theorem sym_other {s : ByteArray} {q : Nat} (hq : q ≤ s.size) (h : ¬ letterN (lookB s q) = true) : joinW s q = q ∧ nameN s q = q := by
  have hkr : keyR s q = q := by rw [keyR_named hq, if_neg (fun h2 => h h2.1)]
  refine ⟨join_no hq (by omega), ?_⟩
  unfold nameN
  rw [if_neg h]
set_option maxRecDepth 100000 in
set_option maxHeartbeats 4000000 in
theorem rsymbol_any (s : ByteArray) (p : Nat) (w : World) (hs : s.size ≤ 16777216) (hp : p < s.size) :
    Calls Tryz.prog 69 #[.string s, .int .i64 (p : Int)] w (NextPost s (ofKw p (hashR s p)) w) := by
  obtain ⟨r, hr⟩ : ∃ r, hashR s p = r := ⟨_, rfl⟩
  rw [hr]
  have HR := Lib.hid hr
  unfold hashR at HR
  clear hr
  have HK := Lib.hid (RtW.make w (.int .i64 5) (.string ⟨#[]⟩) (.int .i64 0) (.int .i64 (p : Int)))
  go_enter Tryz.func69, Tryz.ntmps69
  go_upto_region 4 with fail
  generalize hw2 : (w.alloc (.cells #[.int .i64 0, .string ⟨#[]⟩, .int .i64 0, .int .i64 0] 90)).alloc (.cells #[.int .i64 5, .string ⟨#[]⟩, .int .i64 0, .int .i64 (p : Int)] 90) = w2 at *
  obtain ⟨T, hT⟩ : ∃ T, w.heap.size + 1 = T := ⟨_, rfl⟩
  obtain ⟨f, hf⟩ : ∃ f, p + 1 = f := ⟨_, rfl⟩
  rw [hT] at HK ⊢
  have hfi : (p : Int) + 1 = (f : Int) := by omega
  have hff : p + 2 = f + 1 := by omega
  rw [hff, hf] at HR
  rw [hfi]
  have hfs : f ≤ s.size := by omega
  have HB0 := Lib.hid HK.out.bel
  obtain ⟨C, hC⟩ : ∃ C, w.heap.size = C := ⟨_, rfl⟩
  have HCC := Lib.hid hC
  simp only [hC] at HK ⊢
  have f1 := cells4L HK.out.tok
  have f2 := cells4L HK.out.res
  have l1 := lt_of_blk HK.out.tok
  have l2 := lt_of_blk HK.out.res
  have hne := HK.out.ne.1
  clear hw2 hT hC hfi
  by_cases h40 : lookB s f = 40
  · obtain ⟨hlt, h40'⟩ := lookB_pos h40 (by decide)
    have HE := Lib.hid (HR.out.symm.trans (if_pos h40))
    have e1 : ((s[f].toNat : Int) == 40) = true := by rw [beq_iff_eq]; omega
    clear HR h40 h40'
    go_wp2_with fail
    obtain ⟨g1, g2⟩ := HK.out.fin (.int .i64 15) (.string ⟨#[]⟩) (.int .i64 0) (.int .i64 (p : Int))
    refine bodyPost_ret (v := .tuple #[tokV 15 ⟨#[]⟩ 0 p, .int .i64 ((f + 1 : Nat) : Int), .int .i64 0]) (rsym_result g1 rfl rfl rfl) rfl ?_
    exact ⟨g2, .inl ⟨15, [], 0, p, f + 1, ⟨#[]⟩, by rw [HE.out]; rfl, by omega, by omega, rfl, rfl⟩⟩
  have HR1 := Lib.hid (HR.out.symm.trans (if_neg h40))
  clear HR
  by_cases h39 : lookB s f = 39
  · obtain ⟨hlt, h39'⟩ := lookB_pos h39 (by decide)
    have HR2 := Lib.hid (HR1.out.trans (if_pos h39))
    have e0 : ((s[f].toNat : Int) == 40) = false := by rw [beq_eq_false_iff_ne]; omega
    have e1 : ((s[f].toNat : Int) == 39) = true := by rw [beq_iff_eq]; omega
    have htx := rtext_s s f w2 hs hlt
    rw [txt_quo] at htx
    clear HR1 h39 h39' h40
    generalize quoA (f + 1) ((sb s).drop (f + 1)) = qr at *
    go_wp2_with fail
    refine htx.mono ?_
    rintro e w3 ⟨hb3, (⟨hn, rfl⟩ | ⟨t, q, hn, hq1, hq2, htl, rfl⟩)⟩
    · cases qr with
      | some q => cases hn
      | none =>
      have HK3 := Lib.hid (HK.out.below hb3)
      have HE : Hid (r = .inr 4) := Lib.hid HR2.out
      clear f1 f2 l1 l2 htx hn HR2 HK hb3
      have f1 := cells4L HK3.out.tok
      have f2 := cells4L HK3.out.res
      have l1 := lt_of_blk HK3.out.tok
      have l2 := lt_of_blk HK3.out.res
      go_wp2_with fail
      obtain ⟨g1, g2⟩ := HK3.out.fin (.int .i64 0) (.string ⟨#[]⟩) (.int .i64 0) (.int .i64 0)
      refine bodyPost_ret (v := .tuple #[tokV 0 ⟨#[]⟩ 0 0, .int .i64 (p : Int), .int .i64 4]) (rsym_result g1 rfl rfl rfl) rfl ?_
      exact ⟨g2, .inr ⟨4, p, by rw [HE.out]; rfl, by omega, rfl⟩⟩
    · cases qr with
      | none => cases hn
      | some q' =>
      simp only [Option.map_some, Option.some.injEq, Prod.mk.injEq] at hn
      obtain ⟨hn1, hn2⟩ := hn
      subst hn2
      have HR3 := HR2.out
      simp only [hn1] at HR3
      have HKx := Lib.hid (HK.out.below hb3)
      clear f1 f2 l1 l2 htx hn1 HR2 HK hb3
      have f1 := cells4L HKx.out.tok
      have f2 := cells4L HKx.out.res
      have l1 := lt_of_blk HKx.out.tok
      have l2 := lt_of_blk HKx.out.res
      have htz : (mkB t).size = t.length := mkB_size t
      have hts : (mkB t).size ≤ 16777216 := by omega
      have HW := Lib.hid (show sb (mkB t) = t from sb_mk t)
      rw [← htz] at HR3
      have HRx := Lib.hid HR3
      clear HR3 htz
      generalize mkB t = W at *
      have HK4 := Lib.hid (HKx.out.set (x0 := .int .i64 5) (x1 := .string W) (x2 := .int .i64 0) (x3 := .int .i64 (p : Int)) 1 (.string W) rfl)
      clear HKx
      go_upto_region 20 with fail
      clear f1 f2 l1 l2
      generalize w3.setCell ⟨T, 1, none⟩ (.string W) = w4 at *
      have f1 := cells4L HK4.out.tok
      have f2 := cells4L HK4.out.res
      have l1 := lt_of_blk HK4.out.tok
      have l2 := lt_of_blk HK4.out.res
      by_cases h64 : 64 < (W).size
      · have HE := Lib.hid (HRx.out.trans (if_pos h64))
        go_wp2_with fail
        obtain ⟨g1, g2⟩ := HK4.out.fin (.int .i64 0) (.string ⟨#[]⟩) (.int .i64 0) (.int .i64 0)
        refine bodyPost_ret (v := .tuple #[tokV 0 ⟨#[]⟩ 0 0, .int .i64 (p : Int), .int .i64 2]) (rsym_result g1 rfl rfl rfl) rfl ?_
        exact ⟨g2, .inr ⟨2, p, by rw [HE.out]; rfl, by omega, rfl⟩⟩
      · have HE := Lib.hid (HRx.out.trans (if_neg h64))
        go_wp2_with fail
        obtain ⟨g1, g2⟩ := HK4.out.fin (.int .i64 5) (.string W) (.int .i64 0) (.int .i64 (p : Int))
        refine bodyPost_ret (v := .tuple #[tokV 5 W 0 p, .int .i64 (q' : Int), .int .i64 0]) (rsym_result g1 rfl rfl rfl) rfl ?_
        exact ⟨g2, .inl ⟨5, t, 0, p, q', W, by rw [HE.out]; rfl, by omega, by omega, HW.out, rfl⟩⟩
  have HR2 := Lib.hid (HR1.out.trans (if_neg h39))
  clear HR1
  have hkw := rkeywords_any s f w2 hs hfs
  have hnm := rname_any s f w2 hs hfs
  have hop := roper_any s f w2 hs hfs
  have hjl := joinW_le s f hfs
  have HPre : ∀ c : Int, (c = 40 ∨ c = 39) → ∀ h : f < s.size, ((s[f].toNat : Int) == c) = false := fun c hc h => by
    rw [lookB_at h] at h40 h39
    rw [beq_eq_false_iff_ne]
    omega
  have HP0 := Lib.hid HPre
  clear HPre h40 h39
  by_cases hlt : f < s.size
  case neg =>
    have e : f = s.size := by omega
    have hz := lookB_no (s := s) (p := f) (by omega)
    have hso := sym_other hfs (by rw [hz]; decide)
    have h0 : opF s f 2 = 0 := by rw [opF_eq s f hfs, hz]; rfl
    have HE : Hid (r = .inr 3) := Lib.hid (by rw [HR2.out, hz, if_neg (by decide), if_pos h0])
    rw [hso.1] at hkw
    rw [hso.2] at hnm
    rw [h0, Nat.add_zero] at hop
    have hlt' : ¬ ((f : Int) < (s.size : Int)) := by omega
    clear HR2 hz hso h0 HP0 hjl e
    go_upto_region 13 with (first | (go_at_call 82; refine hkw.mono ?_; rintro e w' ⟨rfl, rfl⟩))
    clear hkw
    go_upto_region 15 with (first | (go_at_call 65; refine hnm.mono ?_; rintro e w' ⟨rfl, rfl⟩))
    clear hnm
    go_upto_region 17 with (first | (go_at_call 70; refine hop.mono ?_; rintro e w' ⟨rfl, rfl⟩))
    clear hop
    go_wp2_with fail
    obtain ⟨g1, g2⟩ := HK.out.fin (.int .i64 0) (.string ⟨#[]⟩) (.int .i64 0) (.int .i64 0)
    refine bodyPost_ret (v := .tuple #[tokV 0 ⟨#[]⟩ 0 0, .int .i64 (p : Int), .int .i64 3]) (rsym_result g1 rfl rfl rfl) rfl ?_
    exact ⟨g2, .inr ⟨3, p, by rw [HE.out]; rfl, by omega, rfl⟩⟩
  have e0 := HP0.out 40 (.inl rfl) hlt
  have e1 := HP0.out 39 (.inr rfl) hlt
  clear HP0
  by_cases hl : letterN (lookB s f) = true
  · have HR3 := HR2.out.trans (if_pos hl)
    obtain ⟨hjr, hjj⟩ := sym_letter hfs hl
    have hjrl := joinR_le hfs
    have HW := Lib.hid (mid_eq s f (joinR s f))
    have hWz : (s.extract f (joinR s f)).size = (midL s f (joinR s f)).length := by rw [← HW.out, sb_len]
    have hWs : (s.extract f (joinR s f)).size ≤ 16777216 := by rw [hWz, midL_len s hjrl.2]; omega
    rw [← hWz] at HR3
    have HRx := Lib.hid HR3
    have HWs := Lib.hid hWs
    have HKx := Lib.hid HK.out
    clear HR2 hop HR3 hWz hWs HK
    generalize midL s f (joinR s f) = wd at *
    rcases hjj with ⟨hj1, hj2⟩ | ⟨hj1, hj2⟩
    · rw [hj2] at hkw
      clear hj1 hj2 hjl hnm
      generalize joinR s f = J at *
      have hjb : ((J : Int) == (f : Int)) = false := by rw [beq_eq_false_iff_ne]; omega
      obtain ⟨hj1, hj2⟩ := hjrl
      go_upto_region 13 with (first | (go_at_call 82; refine hkw.mono ?_; rintro e w' ⟨rfl, rfl⟩))
      clear hkw
      go_upto_region 19 with fail
      have HK4 := Lib.hid (HKx.out.set (x0 := .int .i64 5) (x1 := .string (s.extract f J)) (x2 := .int .i64 0) (x3 := .int .i64 (p : Int)) 1 (.string (s.extract f J)) rfl)
      clear HKx
      go_upto_region 20 with fail
      clear f1 f2 l1 l2
      generalize w2.setCell ⟨T, 1, none⟩ (.string (s.extract f J)) = w4 at *
      generalize (s.extract f J) = W at *
      have f1 := cells4L HK4.out.tok
      have f2 := cells4L HK4.out.res
      have l1 := lt_of_blk HK4.out.tok
      have l2 := lt_of_blk HK4.out.res
      by_cases h64 : 64 < (W).size
      · have HE := Lib.hid (HRx.out.trans (if_pos h64))
        go_wp2_with fail
        obtain ⟨g1, g2⟩ := HK4.out.fin (.int .i64 0) (.string ⟨#[]⟩) (.int .i64 0) (.int .i64 0)
        refine bodyPost_ret (v := .tuple #[tokV 0 ⟨#[]⟩ 0 0, .int .i64 (p : Int), .int .i64 2]) (rsym_result g1 rfl rfl rfl) rfl ?_
        exact ⟨g2, .inr ⟨2, p, by rw [HE.out]; rfl, by omega, rfl⟩⟩
      · have HE := Lib.hid (HRx.out.trans (if_neg h64))
        go_wp2_with fail
        obtain ⟨g1, g2⟩ := HK4.out.fin (.int .i64 5) (.string W) (.int .i64 0) (.int .i64 (p : Int))
        refine bodyPost_ret (v := .tuple #[tokV 5 W 0 p, .int .i64 (J : Int), .int .i64 0]) (rsym_result g1 rfl rfl rfl) rfl ?_
        exact ⟨g2, .inl ⟨5, wd, 0, p, J, W, by rw [HE.out]; rfl, by omega, by omega, HW.out, rfl⟩⟩
    · rw [hj1] at hkw
      rw [hj2] at hnm
      clear hj1 hj2 hjl
      generalize joinR s f = J at *
      have hjb : ((J : Int) == (f : Int)) = false := by rw [beq_eq_false_iff_ne]; omega
      obtain ⟨hj1, hj2⟩ := hjrl
      go_upto_region 13 with (first | (go_at_call 82; refine hkw.mono ?_; rintro e w' ⟨rfl, rfl⟩))
      clear hkw
      go_upto_region 15 with (first | (go_at_call 65; refine hnm.mono ?_; rintro e w' ⟨rfl, rfl⟩))
      clear hnm
      go_upto_region 19 with fail
      have HK4 := Lib.hid (HKx.out.set (x0 := .int .i64 5) (x1 := .string (s.extract f J)) (x2 := .int .i64 0) (x3 := .int .i64 (p : Int)) 1 (.string (s.extract f J)) rfl)
      clear HKx
      go_upto_region 20 with fail
      clear f1 f2 l1 l2
      generalize w2.setCell ⟨T, 1, none⟩ (.string (s.extract f J)) = w4 at *
      generalize (s.extract f J) = W at *
      have f1 := cells4L HK4.out.tok
      have f2 := cells4L HK4.out.res
      have l1 := lt_of_blk HK4.out.tok
      have l2 := lt_of_blk HK4.out.res
      by_cases h64 : 64 < (W).size
      · have HE := Lib.hid (HRx.out.trans (if_pos h64))
        go_wp2_with fail
        obtain ⟨g1, g2⟩ := HK4.out.fin (.int .i64 0) (.string ⟨#[]⟩) (.int .i64 0) (.int .i64 0)
        refine bodyPost_ret (v := .tuple #[tokV 0 ⟨#[]⟩ 0 0, .int .i64 (p : Int), .int .i64 2]) (rsym_result g1 rfl rfl rfl) rfl ?_
        exact ⟨g2, .inr ⟨2, p, by rw [HE.out]; rfl, by omega, rfl⟩⟩
      · have HE := Lib.hid (HRx.out.trans (if_neg h64))
        go_wp2_with fail
        obtain ⟨g1, g2⟩ := HK4.out.fin (.int .i64 5) (.string W) (.int .i64 0) (.int .i64 (p : Int))
        refine bodyPost_ret (v := .tuple #[tokV 5 W 0 p, .int .i64 (J : Int), .int .i64 0]) (rsym_result g1 rfl rfl rfl) rfl ?_
        exact ⟨g2, .inl ⟨5, wd, 0, p, J, W, by rw [HE.out]; rfl, by omega, by omega, HW.out, rfl⟩⟩
  · obtain ⟨hj1, hj2⟩ := sym_other hfs hl
    rw [hj1] at hkw
    rw [hj2] at hnm
    have hol := opF_le s f hfs 2
    have HR3 := HR2.out.trans (if_neg hl)
    clear hj1 hj2 hjl HR2
    by_cases hn0 : opF s f 2 = 0
    · have HE := Lib.hid (HR3.trans (if_pos hn0))
      rw [hn0, Nat.add_zero] at hop
      clear HR3 hn0 hol
      go_upto_region 13 with (first | (go_at_call 82; refine hkw.mono ?_; rintro e w' ⟨rfl, rfl⟩))
      clear hkw
      go_upto_region 15 with (first | (go_at_call 65; refine hnm.mono ?_; rintro e w' ⟨rfl, rfl⟩))
      clear hnm
      go_upto_region 17 with (first | (go_at_call 70; refine hop.mono ?_; rintro e w' ⟨rfl, rfl⟩))
      clear hop
      go_wp2_with fail
      obtain ⟨g1, g2⟩ := HK.out.fin (.int .i64 0) (.string ⟨#[]⟩) (.int .i64 0) (.int .i64 0)
      refine bodyPost_ret (v := .tuple #[tokV 0 ⟨#[]⟩ 0 0, .int .i64 (p : Int), .int .i64 3]) (rsym_result g1 rfl rfl rfl) rfl ?_
      exact ⟨g2, .inr ⟨3, p, by rw [HE.out]; rfl, by omega, rfl⟩⟩
    · have HR4 := HR3.trans (if_neg hn0)
      have HW := Lib.hid (mid_eq s f (f + opF s f 2))
      have hWz : (s.extract f (f + opF s f 2)).size = (midL s f (f + opF s f 2)).length := by rw [← HW.out, sb_len]
      have hWs : (s.extract f (f + opF s f 2)).size ≤ 2 := by rw [hWz, midL_len s hol.1]; omega
      have HWs := Lib.hid (show (s.extract f (f + opF s f 2)).size ≤ 16777216 by omega)
      have HRx := Lib.hid (show r = if 64 < (s.extract f (f + opF s f 2)).size then .inr 2 else .inl (5, midL s f (f + opF s f 2), f + opF s f 2) by rw [HR4, if_neg (by omega)])
      have HKx := Lib.hid HK.out
      clear HR3 HR4 hWz hWs HK
      generalize midL s f (f + opF s f 2) = wd at *
      generalize hJ : f + opF s f 2 = J at *
      have hjb : ((J : Int) == (f : Int)) = false := by rw [beq_eq_false_iff_ne]; omega
      have hj1 : f ≤ J := by omega
      have hj2 : J ≤ s.size := hol.1
      have hjr : J ≠ f := by omega
      clear hJ hol hn0
      go_upto_region 13 with (first | (go_at_call 82; refine hkw.mono ?_; rintro e w' ⟨rfl, rfl⟩))
      clear hkw
      go_upto_region 15 with (first | (go_at_call 65; refine hnm.mono ?_; rintro e w' ⟨rfl, rfl⟩))
      clear hnm
      go_upto_region 17 with (first | (go_at_call 70; refine hop.mono ?_; rintro e w' ⟨rfl, rfl⟩))
      clear hop
      go_upto_region 19 with fail
      have HK4 := Lib.hid (HKx.out.set (x0 := .int .i64 5) (x1 := .string (s.extract f J)) (x2 := .int .i64 0) (x3 := .int .i64 (p : Int)) 1 (.string (s.extract f J)) rfl)
      clear HKx
      go_upto_region 20 with fail
      clear f1 f2 l1 l2
      generalize w2.setCell ⟨T, 1, none⟩ (.string (s.extract f J)) = w4 at *
      generalize (s.extract f J) = W at *
      have f1 := cells4L HK4.out.tok
      have f2 := cells4L HK4.out.res
      have l1 := lt_of_blk HK4.out.tok
      have l2 := lt_of_blk HK4.out.res
      by_cases h64 : 64 < (W).size
      · have HE := Lib.hid (HRx.out.trans (if_pos h64))
        go_wp2_with fail
        obtain ⟨g1, g2⟩ := HK4.out.fin (.int .i64 0) (.string ⟨#[]⟩) (.int .i64 0) (.int .i64 0)
        refine bodyPost_ret (v := .tuple #[tokV 0 ⟨#[]⟩ 0 0, .int .i64 (p : Int), .int .i64 2]) (rsym_result g1 rfl rfl rfl) rfl ?_
        exact ⟨g2, .inr ⟨2, p, by rw [HE.out]; rfl, by omega, rfl⟩⟩
      · have HE := Lib.hid (HRx.out.trans (if_neg h64))
        go_wp2_with fail
        obtain ⟨g1, g2⟩ := HK4.out.fin (.int .i64 5) (.string W) (.int .i64 0) (.int .i64 (p : Int))
        refine bodyPost_ret (v := .tuple #[tokV 5 W 0 p, .int .i64 (J : Int), .int .i64 0]) (rsym_result g1 rfl rfl rfl) rfl ?_
        exact ⟨g2, .inl ⟨5, wd, 0, p, J, W, by rw [HE.out]; rfl, by omega, by omega, HW.out, rfl⟩⟩
end Go.Proofs.YtponopcnndkalaaGreatDoor.Fl

/-
  The document's Parse of a text of any length.
-/
namespace Go.Proofs.YtponopcnndkalaaGreatDoor.Fl
open Go.RowKit

theorem bs_headL (s : ByteArray) (h : 0 < s.size) : (sb s).head? = some s[0] := by rw [List.head?_eq_getElem?]; exact sb_at s 0 h
theorem bs_nilL (s : ByteArray) (h : s.size = 0) : sb s = [] := List.eq_nil_of_length_eq_zero (by rw [sb_len]; exact h)
theorem neg_bodyL {s : ByteArray} (h : 0 < s.size) (h0 : s[0] = 45) : isNeg (sb s) = true ∧ body (sb s) = (sb s).drop 1 := by
  have hh := bs_headL s h
  rw [h0] at hh
  refine ⟨by simp [isNeg, hh], ?_⟩
  unfold body; rw [if_pos hh]; exact List.drop_one.symm
theorem pos_bodyL {s : ByteArray} (h : 0 < s.size) (h0 : s[0] ≠ 45) : isNeg (sb s) = false ∧ body (sb s) = (sb s).drop 0 := by
  have hh := bs_headL s h
  refine ⟨by simp [isNeg, hh, h0], ?_⟩
  unfold body; rw [if_neg (by rw [hh]; simpa using h0)]; rfl
/-- the digits that were read, from place A up to k -/
def partP (s : ByteArray) (A k : Nat) : List UInt8 := ((sb s).take k).drop A
theorem part_startL (s : ByteArray) (A : Nat) : partP s A A = [] := by unfold partP; exact List.drop_eq_nil_of_le (List.length_take_le _ _)
theorem part_stepL (s : ByteArray) (A k : Nat) (hA : A ≤ k) (h : k < s.size) : partP s A (k + 1) = partP s A k ++ [s[k]] := by
  unfold partP
  rw [sb_take s k h, List.drop_append_of_le_length]
  rw [List.length_take, sb_len]; omega
theorem part_allL (s : ByteArray) (A : Nat) : partP s A s.size = (sb s).drop A := by unfold partP; rw [sb_all]
theorem part_badL {s : ByteArray} {A k : Nat} (hb : body (sb s) = (sb s).drop A) (hA : A ≤ k) (h : k < s.size) (hd : ¬ (48 ≤ (s[k].toNat : Int) ∧ (s[k].toNat : Int) ≤ 57)) : form (sb s) = false := by
  unfold form
  rw [Bool.and_eq_false_iff]
  left
  rw [Bool.eq_false_iff]
  intro ha
  rw [hb] at ha
  unfold allDig at ha
  rw [List.all_eq_true] at ha
  refine hd ((digL_iff _).1 (ha _ (List.mem_of_getElem? (i := k - A) ?_)))
  rw [List.getElem?_drop, show A + (k - A) = k by omega]
  exact sb_at s k h
theorem part_formL {s : ByteArray} {A : Nat} (hb : body (sb s) = (sb s).drop A) (h : A < s.size) (ha : allDig (partP s A s.size) = true) : form (sb s) = true := by
  rw [part_allL, ← hb] at ha
  unfold form
  rw [ha]
  have : (body (sb s)).length ≠ 0 := by rw [hb, List.length_drop, sb_len]; omega
  cases hl : body (sb s) with
  | nil => rw [hl] at this; exact absurd rfl this
  | cons c r => rfl
theorem all_snocL {l : List UInt8} {c : UInt8} (h : allDig l = true) (hc : isDig c = true) : allDig (l ++ [c]) = true := by
  unfold allDig at *; rw [List.all_append, h]; simp [hc]
theorem sat_snocL (l : List UInt8) (c : UInt8) : sat 0 (l ++ [c]) = satStep (sat 0 l) c := by unfold sat; rw [List.foldl_append]; rfl
theorem sat_endL {s : ByteArray} {A m : Nat} (hb : body (sb s) = (sb s).drop A) (h : m = sat 0 (partP s A s.size)) : Sat m (dv 0 (body (sb s))) := by
  rw [h, hb, part_allL]; exact sat_dv _ (.inl rfl)
attribute [irreducible] partP

set_option maxHeartbeats 2000000 in
theorem rparse_anyL (s : ByteArray) (w : World) (hs : s.size ≤ 16777216) :
    Calls Tryz.prog 67 #[.string s] w fun e w' => e = .returned (.tuple #[.int .i64 (pv (sb s)), .int .i64 (pe (sb s))]) ∧ w = w' := by
  by_cases hz : s.size = 0
  · have HB := Lib.hid (pvpeL_bad (l := sb s) (by rw [bs_nilL s hz]; rfl))
    have h0 : ¬ 0 < s.size := by omega
    have h1 : ((0 : Int) == (s.size : Int)) = true := by simp; omega
    clear hz
    go_enter Tryz.func67, Tryz.ntmps67
    go_wp2_with fail
    go_ret2
    exact ⟨ret_ppL HB.out, rfl⟩
  · have hp : 0 < s.size := by omega
    by_cases hc : s[0] = 45
    · have t0 : ((s[0].toNat : Int) == 45) = true := by rw [hc]; rfl
      obtain ⟨hn, hb⟩ := neg_bodyL hp hc
      have HN := Lib.hid hn
      have HB := Lib.hid hb
      clear hn hb hc hz
      by_cases h1 : s.size = 1
      · have t1 : ((1 : Int) == (s.size : Int)) = true := by simp; omega
        have HF := Lib.hid (pvpeL_bad (l := sb s) (by
          unfold form
          have : (body (sb s)).length = 0 := by rw [HB.out, List.length_drop, sb_len]; omega
          rw [List.eq_nil_of_length_eq_zero this]; rfl))
        clear h1
        go_enter Tryz.func67, Tryz.ntmps67
        go_wp2_with fail
        go_ret2
        exact ⟨ret_ppL HF.out, rfl⟩
      · have t1 : ((1 : Int) == (s.size : Int)) = false := by simp; omega
        have hA : 1 < s.size := by omega
        clear h1
        go_enter Tryz.func67, Tryz.ntmps67
        go_wp2_with fail
        go_loop [5, 6] (fun a i => ∃ k m : Nat, 1 ≤ k ∧ k ≤ s.size ∧ i = .int .i64 k ∧ a = .int .u64 m ∧ m ≤ 9223372036854775807 ∧ Hid (m = sat 0 (partP s 1 k)) ∧ Hid (allDig (partP s 1 k) = true)) (fun _ i => s.size - (intOf i).toNat)
        case atStart => exact ⟨1, 0, Nat.le_refl _, by omega, rfl, rfl, by omega, Lib.hid (by rw [part_startL]; unfold sat; rfl), Lib.hid (by rw [part_startL]; rfl)⟩
        case round =>
          obtain ⟨k, m, hkA, hk, rfl, rfl, hm, HM, HD⟩ := hrel
          by_cases hlt : k < s.size
          · have HT := Lib.hid (part_stepL s 1 k hkA hlt)
            by_cases h1 : (s[k].toNat : Int) < 48
            · have HBad := Lib.hid (pvpeL_bad (part_badL HB.out hkA hlt (by omega)))
              go_wp2
              go_ret2
              exact ⟨ret_ppL HBad.out, rfl⟩
            · by_cases h2 : (57 : Int) < (s[k].toNat : Int)
              · have HBad := Lib.hid (pvpeL_bad (part_badL HB.out hkA hlt (by omega)))
                go_wp2
                go_ret2
                exact ⟨ret_ppL HBad.out, rfl⟩
              · have HC := Lib.hid ((digL_iff s[k]).2 ⟨by omega, by omega⟩)
                have HS := Lib.hid (sat_le hm HC.out)
                by_cases h3 : 461168601842738791 < (m : Int)
                · go_wp2
                  refine ⟨⟨k + 1, satStep m s[k], by omega, by omega, by go_num, ?_, HS.out, Lib.hid (by rw [HT.out, sat_snocL, ← HM.out]), Lib.hid (by rw [HT.out]; exact all_snocL HD.out HC.out)⟩, ?_⟩
                  · unfold satStep; rw [if_pos (by omega)]; rfl
                  · simp [intOf]; omega
                · go_wp2
                  refine ⟨⟨k + 1, satStep m s[k], by omega, by omega, by go_num, ?_, HS.out, Lib.hid (by rw [HT.out, sat_snocL, ← HM.out]), Lib.hid (by rw [HT.out]; exact all_snocL HD.out HC.out)⟩, ?_⟩
                  · unfold satStep; rw [if_neg (by omega)]; congr 1; omega
                  · simp [intOf]; omega
          · have e : k = s.size := by omega
            subst e
            have HF := Lib.hid (part_formL HB.out hA HD.out)
            have HV := Lib.hid (sat_endL HB.out HM.out)
            clear HM HD
            by_cases hm : 4611686018427387904 < (m : Int)
            · go_wp2
              go_ret2
              exact ⟨ret_ppL (pvpeL_out HF.out (by
                have hv := HV.out
                unfold Sat at hv
                unfold spelt; rw [HN.out]; unfold InR; simp; omega)), rfl⟩
            · go_wp2
              go_ret2
              refine ⟨ret_ppL (?_ : _ ∧ _), rfl⟩
              have hv := HV.out
              unfold Sat at hv
              have hsp : spelt (sb s) = -(m : Int) := by unfold spelt; rw [HN.out]; simp; omega
              have := pvpeL_in HF.out (by rw [hsp]; unfold InR; omega)
              rw [hsp] at this
              exact this
    · have t0 : ((s[0].toNat : Int) == 45) = false := by
        rw [beq_eq_false_iff_ne]
        intro e
        exact hc (UInt8.toNat_inj.1 (by rw [show (45 : UInt8).toNat = 45 from rfl]; omega))
      have t1 : ((0 : Int) == (s.size : Int)) = false := by simp; omega
      obtain ⟨hn, hb⟩ := pos_bodyL hp hc
      have HN := Lib.hid hn
      have HB := Lib.hid hb
      have hA : 0 < s.size := hp
      clear hn hb hc hz
      go_enter Tryz.func67, Tryz.ntmps67
      go_wp2_with fail
      go_loop [5, 6] (fun a i => ∃ k m : Nat, 0 ≤ k ∧ k ≤ s.size ∧ i = .int .i64 k ∧ a = .int .u64 m ∧ m ≤ 9223372036854775807 ∧ Hid (m = sat 0 (partP s 0 k)) ∧ Hid (allDig (partP s 0 k) = true)) (fun _ i => s.size - (intOf i).toNat)
      case atStart => exact ⟨0, 0, Nat.le_refl _, by omega, rfl, rfl, by omega, Lib.hid (by rw [part_startL]; unfold sat; rfl), Lib.hid (by rw [part_startL]; rfl)⟩
      case round =>
        obtain ⟨k, m, hkA, hk, rfl, rfl, hm, HM, HD⟩ := hrel
        by_cases hlt : k < s.size
        · have HT := Lib.hid (part_stepL s 0 k hkA hlt)
          by_cases h1 : (s[k].toNat : Int) < 48
          · have HBad := Lib.hid (pvpeL_bad (part_badL HB.out hkA hlt (by omega)))
            go_wp2
            go_ret2
            exact ⟨ret_ppL HBad.out, rfl⟩
          · by_cases h2 : (57 : Int) < (s[k].toNat : Int)
            · have HBad := Lib.hid (pvpeL_bad (part_badL HB.out hkA hlt (by omega)))
              go_wp2
              go_ret2
              exact ⟨ret_ppL HBad.out, rfl⟩
            · have HC := Lib.hid ((digL_iff s[k]).2 ⟨by omega, by omega⟩)
              have HS := Lib.hid (sat_le hm HC.out)
              by_cases h3 : 461168601842738791 < (m : Int)
              · go_wp2
                refine ⟨⟨k + 1, satStep m s[k], by omega, by omega, by go_num, ?_, HS.out, Lib.hid (by rw [HT.out, sat_snocL, ← HM.out]), Lib.hid (by rw [HT.out]; exact all_snocL HD.out HC.out)⟩, ?_⟩
                · unfold satStep; rw [if_pos (by omega)]; rfl
                · simp [intOf]; omega
              · go_wp2
                refine ⟨⟨k + 1, satStep m s[k], by omega, by omega, by go_num, ?_, HS.out, Lib.hid (by rw [HT.out, sat_snocL, ← HM.out]), Lib.hid (by rw [HT.out]; exact all_snocL HD.out HC.out)⟩, ?_⟩
                · unfold satStep; rw [if_neg (by omega)]; congr 1; omega
                · simp [intOf]; omega
        · have e : k = s.size := by omega
          subst e
          have HF := Lib.hid (part_formL HB.out hA HD.out)
          have HV := Lib.hid (sat_endL HB.out HM.out)
          clear HM HD
          by_cases hm : 4611686018427387904 < (m : Int)
          · go_wp2
            go_ret2
            exact ⟨ret_ppL (pvpeL_out HF.out (by
              have hv := HV.out
              unfold Sat at hv
              unfold spelt; rw [HN.out]; unfold InR; simp; omega)), rfl⟩
          · by_cases hm2 : 4611686018427387903 < (m : Int)
            · go_wp2
              go_ret2
              exact ⟨ret_ppL (pvpeL_out HF.out (by
                have hv := HV.out
                unfold Sat at hv
                unfold spelt; rw [HN.out]; unfold InR; simp; omega)), rfl⟩
            · go_wp2
              go_ret2
              refine ⟨ret_ppL (?_ : _ ∧ _), rfl⟩
              have hv := HV.out
              unfold Sat at hv
              have hsp : spelt (sb s) = (m : Int) := by unfold spelt; rw [HN.out]; simp; omega
              have := pvpeL_in HF.out (by rw [hsp]; unfold InR; omega)
              rw [hsp] at this
              exact this
end Go.Proofs.YtponopcnndkalaaGreatDoor.Fl

/-
  The document's lexer: Next.
-/
namespace Go.Proofs.YtponopcnndkalaaGreatDoor.Fl
open Go.RowKit

theorem rnext_result {W : World} {C : Nat} {v0 v1 v2 v3 u v : Value} {a : Array Value} (h : W.heap[C]? = some (.cells #[v0, v1, v2, v3] 90 (0, 0))) (h4 : a[4]?.getD undef = .pointer (some ⟨C, 0, none⟩)) (h5 : a[5]?.getD undef = u) (h6 : a[6]?.getD undef = v) :
    (results Tryz.f37 a).run Tryz.prog W = .ok (.tuple #[.agg #[v0, v1, v2, v3], u, v]) W := by
  obtain ⟨c0, c1, c2, c3, _⟩ := cells4L h
  simp [results, Tryz.results37, go_sem, h4, h5, h6, c0, c1, c2, c3]
/-- the place where no mark stands -/
theorem marks_not (c : Nat) (h : c < 256) (hn : ∀ i : Fin 7, (marksL.getD i 0).toNat ≠ c) : Lib.indexByte marksL (UInt8.ofNat c) = -1 := by
  have key : ∀ n : Fin 256, (∀ i : Fin 7, (marksL.getD i 0).toNat ≠ n.1) → Lib.indexByte marksL (UInt8.ofNat n) = -1 := by decide +kernel
  exact key ⟨c, h⟩ hn
theorem marks_op : ∀ i : Fin 7, operN (marksL.getD i 0).toNat = false ∧ (marksL.getD i 0).toNat ≠ 124 ∧ Lib.indexByte marksL (UInt8.ofNat (marksL.getD i 0).toNat) = i := by decide +kernel
set_option maxRecDepth 100000 in
set_option maxHeartbeats 8000000 in
theorem rnext_any (s : ByteArray) (p : Nat) (w : World) (hs : s.size ≤ 16777216) (hp : p ≤ s.size) :
    Calls Tryz.prog 37 #[.string s, .int .i64 (p : Int)] w (NextPost s (tokR s p) w) := by
  have hw1 := heap_alloc_new w (.cells #[.int .i64 0, .string ⟨#[]⟩, .int .i64 0, .int .i64 0] 90)
  have hb1 : Below w.heap.size w (w.alloc (.cells #[.int .i64 0, .string ⟨#[]⟩, .int .i64 0, .int .i64 0] 90)) := (Below.refl _ _).alloc (Nat.le_refl _) _
  have hsk := rskip_any s p (w.alloc (.cells #[.int .i64 0, .string ⟨#[]⟩, .int .i64 0, .int .i64 0] 90)) hs hp
  obtain ⟨r, hr⟩ : ∃ r, tokR s p = r := ⟨_, rfl⟩
  rw [hr]
  have HR := Lib.hid hr
  unfold tokR at HR
  have hsi : ∀ q, skipA none p ((sb s).drop p) = .inl q → q ≤ s.size := fun q h => by
    have := skipA_end _ _ _ _ h
    rw [List.length_drop, sb_len] at this
    omega
  have hsr : ∀ q, skipA none p ((sb s).drop p) = .inr q → q ≤ s.size := fun q h => by
    exact skip_in hp h
  clear hr
  generalize skipA none p ((sb s).drop p) = sk at *
  have hp0 : ¬ ((p : Int) < 0) := by omega
  have hp1 : ¬ ((s.size : Int) < (p : Int)) := by omega
  go_enter Tryz.func37, Tryz.ntmps37
  cases sk with
  | inr q =>
    have HE : Hid (r = .inr (4, q)) := Lib.hid HR.out.symm
    have hqs := hsr q rfl
    have hskv : skV (.inr q) = .tuple #[.int .i64 (q : Int), .bool false] := rfl
    rw [hskv] at hsk
    have f2 := cells4L hw1
    have l2 := lt_of_blk hw1
    have HW1 := Lib.hid hw1
    have HB1 := Lib.hid hb1
    clear HR hsi hsr hw1 hb1 hskv
    go_upto_region 5 with fail
    generalize w.alloc (.cells #[.int .i64 0, .string ⟨#[]⟩, .int .i64 0, .int .i64 0] 90) = w1 at *
    go_wp2_with (first | (go_at_call 62; refine hsk.mono ?_; rintro e w' ⟨rfl, rfl⟩))
    refine bodyPost_ret (v := .tuple #[tokV 0 ⟨#[]⟩ 0 0, .int .i64 (q : Int), .int .i64 4]) (rnext_result (set4 HW1.out (.int .i64 0) (.string ⟨#[]⟩) (.int .i64 0) (.int .i64 0)) rfl rfl rfl) rfl ?_
    exact ⟨(((HB1.out.setCell (p := ⟨w.heap.size, 0, none⟩) (Nat.le_refl _) _).setCell (p := ⟨w.heap.size, 1, none⟩) (Nat.le_refl _) _).setCell (p := ⟨w.heap.size, 2, none⟩) (Nat.le_refl _) _).setCell (p := ⟨w.heap.size, 3, none⟩) (Nat.le_refl _) _, .inr ⟨4, q, HE.out, hqs, rfl⟩⟩
  | inl q =>
    have HR0 : Hid (tokAt s q = r) := Lib.hid HR.out
    have hqs := hsi q rfl
    have hskv : skV (.inl q) = .tuple #[.int .i64 (q : Int), .bool true] := rfl
    rw [hskv] at hsk
    have HK := Lib.hid (RtW.make w (.int .i64 0) (.string ⟨#[]⟩) (.int .i64 0) (.int .i64 (q : Int)))
    clear HR hsi hsr hw1 hb1 hskv
    go_upto_region 9 with (first | (go_at_call 62; refine hsk.mono ?_; rintro e w' ⟨rfl, rfl⟩))
    clear hsk hp0 hp1
    generalize (w.alloc (.cells #[.int .i64 0, .string ⟨#[]⟩, .int .i64 0, .int .i64 0] 90)).alloc (.cells #[.int .i64 0, .string ⟨#[]⟩, .int .i64 0, .int .i64 (q : Int)] 90) = w2 at *
    obtain ⟨T, hT⟩ : ∃ T, w.heap.size + 1 = T := ⟨_, rfl⟩
    rw [hT] at HK ⊢
    obtain ⟨C, hC⟩ : ∃ C, w.heap.size = C := ⟨_, rfl⟩
    simp only [hC] at HK ⊢
    have f1 := cells4L HK.out.tok
    have f2 := cells4L HK.out.res
    have l1 := lt_of_blk HK.out.tok
    have l2 := lt_of_blk HK.out.res
    have hne := HK.out.ne.1
    have HCC := Lib.hid hC
    clear hT hC
    unfold tokAt at HR0
    by_cases hend : q = s.size
    · have HE := Lib.hid (HR0.out.symm.trans (if_pos hend))
      have hqb : ((q : Int) == (s.size : Int)) = true := by rw [beq_iff_eq]; omega
      clear HR0 hend
      go_wp2_with fail
      obtain ⟨g1, g2⟩ := HK.out.fin (.int .i64 0) (.string ⟨#[]⟩) (.int .i64 0) (.int .i64 (q : Int))
      refine bodyPost_ret (v := .tuple #[tokV 0 ⟨#[]⟩ 0 q, .int .i64 (q : Int), .int .i64 0]) (rnext_result g1 rfl rfl rfl) rfl ?_
      exact ⟨g2, .inl ⟨0, [], 0, q, q, ⟨#[]⟩, HE.out, hqs, hqs, rfl, rfl⟩⟩
    have HR1 := Lib.hid (HR0.out.symm.trans (if_neg hend))
    have hlt : q < s.size := by omega
    have hqb : ((q : Int) == (s.size : Int)) = false := by rw [beq_eq_false_iff_ne]; omega
    have hlk := lookB_at hlt
    have hc8 : s[q].toNat < 256 := s[q].toNat_lt
    rw [hlk] at HR1
    have hle := rletter_any s[q].toNat w2 hc8
    have hdi := rdigit_any s[q].toNat w2 hc8
    have HLK := Lib.hid hlk
    clear HR0 hend hlk
    cases hl : letterN s[q].toNat
    case true =>
      rw [hl] at hle HR1
      have HR2 := HR1.out.trans (if_pos rfl)
      have hll : letterN (lookB s q) = true := by rw [HLK.out]; exact hl
      have hkw := fun w' => rkeyword_any s q w' hs hqs
      have hnm := fun w' => rname_any s q w' hs hqs
      have hJ2 := (namedR_le hqs).2
      have hJlt := namedR_lt hqs hll
      have hkr := keyR_named hqs
      have HW := Lib.hid (mid_eq s q (namedR s q).2)
      have hWz : (s.extract q (namedR s q).2).size = (midL s q (namedR s q).2).length := by rw [← HW.out, sb_len]
      rw [← hWz] at HR2
      have hWs : (s.extract q (namedR s q).2).size ≤ 16777216 := by rw [hWz, midL_len s hJ2]; omega
      clear hWz HR1 hdi
      by_cases hk : (namedR s q).1 = 2
      · rw [if_pos ⟨hll, hk⟩] at hkr
        rw [hk] at HR2
        rw [hkr] at hkw
        clear hkr hk hnm
        generalize midL s q (namedR s q).2 = wd at *
        generalize (namedR s q).2 = J at *
        have hjb : ((J : Int) == (q : Int)) = false := by rw [beq_eq_false_iff_ne]; omega
        have HWs := Lib.hid hWs
        clear hll hWs
        go_upto_region 13 with (first | (go_at_call 63; refine hle.mono ?_; rintro e w' ⟨rfl, rfl⟩))
        clear hle
        have HKx := Lib.hid (HK.out.set (x0 := .int .i64 2) (x1 := .string ⟨#[]⟩) (x2 := .int .i64 0) (x3 := .int .i64 (q : Int)) 0 (.int .i64 2) rfl)
        clear HK
        go_upto_region 14 with fail
        clear f1 f2 l1 l2
        generalize w2.setCell ⟨T, 0, none⟩ (.int .i64 2) = w4 at *
        have f1 := cells4L HKx.out.tok
        have f2 := cells4L HKx.out.res
        have l1 := lt_of_blk HKx.out.tok
        have l2 := lt_of_blk HKx.out.res
        go_upto_region 15 with (first | (go_at_call 64; refine (hkw _).mono ?_; rintro e w' ⟨rfl, rfl⟩))
        clear hkw
        go_upto_region 18 with fail
        have HK4 := Lib.hid (HKx.out.set (x0 := .int .i64 2) (x1 := .string (s.extract q J)) (x2 := .int .i64 0) (x3 := .int .i64 (q : Int)) 1 (.string (s.extract q J)) rfl)
        clear HKx
        go_upto_region 19 with fail
        clear f1 l1 f2 l2
        generalize w4.setCell ⟨T, 1, none⟩ (.string (s.extract q J)) = w5 at *
        generalize s.extract q J = W at *
        have f1 := cells4L HK4.out.tok
        have f2 := cells4L HK4.out.res
        have l1 := lt_of_blk HK4.out.tok
        have l2 := lt_of_blk HK4.out.res
        by_cases h64 : 64 < W.size
        · have HE := Lib.hid (HR2.trans (if_pos h64))
          clear HR2
          go_wp2_with fail
          obtain ⟨g1, g2⟩ := HK4.out.fin (.int .i64 0) (.string ⟨#[]⟩) (.int .i64 0) (.int .i64 0)
          refine bodyPost_ret (v := .tuple #[tokV 0 ⟨#[]⟩ 0 0, .int .i64 (q : Int), .int .i64 2]) (rnext_result g1 rfl rfl rfl) rfl ?_
          exact ⟨g2, .inr ⟨2, q, HE.out, hqs, rfl⟩⟩
        · have HE := Lib.hid (HR2.trans (if_neg h64))
          clear HR2
          go_wp2_with fail
          obtain ⟨g1, g2⟩ := HK4.out.fin (.int .i64 2) (.string W) (.int .i64 0) (.int .i64 (q : Int))
          refine bodyPost_ret (v := .tuple #[tokV 2 W 0 q, .int .i64 (J : Int), .int .i64 0]) (rnext_result g1 rfl rfl rfl) rfl ?_
          exact ⟨g2, .inl ⟨2, wd, 0, q, J, W, HE.out, hqs, hJ2, HW.out, rfl⟩⟩

      · have hk1 : (namedR s q).1 = 1 ∧ (namedR s q).2 = nameN s q := by
          have hk2 := hk
          unfold namedR at hk2 ⊢
          unfold nameN
          rw [if_pos hll]
          split
          · next h => rw [if_pos h] at hk2; exact absurd rfl hk2
          · exact ⟨rfl, rfl⟩
        rw [if_neg (fun h => hk h.2)] at hkr
        rw [hk1.1] at HR2
        rw [hkr] at hkw
        rw [hk1.2] at HR2 HW hJ2 hJlt hWs
        clear hkr hk hk1
        generalize midL s q (nameN s q) = wd at *
        generalize nameN s q = J at *
        have HWs := Lib.hid hWs
        clear hll hWs
        go_upto_region 13 with (first | (go_at_call 63; refine hle.mono ?_; rintro e w' ⟨rfl, rfl⟩))
        clear hle
        have HK1 := Lib.hid (HK.out.set (x0 := .int .i64 2) (x1 := .string ⟨#[]⟩) (x2 := .int .i64 0) (x3 := .int .i64 (q : Int)) 0 (.int .i64 2) rfl)
        clear HK
        go_upto_region 14 with fail
        clear f1 f2 l1 l2
        generalize w2.setCell ⟨T, 0, none⟩ (.int .i64 2) = w3 at *
        have f1 := cells4L HK1.out.tok
        have f2 := cells4L HK1.out.res
        have l1 := lt_of_blk HK1.out.tok
        have l2 := lt_of_blk HK1.out.res
        go_upto_region 15 with (first | (go_at_call 64; refine (hkw _).mono ?_; rintro e w' ⟨rfl, rfl⟩))
        clear hkw
        have HKx := Lib.hid (HK1.out.set (x0 := .int .i64 1) (x1 := .string ⟨#[]⟩) (x2 := .int .i64 0) (x3 := .int .i64 (q : Int)) 0 (.int .i64 1) rfl)
        clear HK1
        go_upto_region 17 with fail
        clear f1 f2 l1 l2
        generalize w3.setCell ⟨T, 0, none⟩ (.int .i64 1) = w4 at *
        have f1 := cells4L HKx.out.tok
        have f2 := cells4L HKx.out.res
        have l1 := lt_of_blk HKx.out.tok
        have l2 := lt_of_blk HKx.out.res
        go_upto_region 18 with (first | (go_at_call 65; refine (hnm _).mono ?_; rintro e w' ⟨rfl, rfl⟩))
        clear hnm
        have HK4 := Lib.hid (HKx.out.set (x0 := .int .i64 1) (x1 := .string (s.extract q J)) (x2 := .int .i64 0) (x3 := .int .i64 (q : Int)) 1 (.string (s.extract q J)) rfl)
        clear HKx
        go_upto_region 19 with fail
        clear f1 l1 f2 l2
        generalize w4.setCell ⟨T, 1, none⟩ (.string (s.extract q J)) = w5 at *
        generalize s.extract q J = W at *
        have f1 := cells4L HK4.out.tok
        have f2 := cells4L HK4.out.res
        have l1 := lt_of_blk HK4.out.tok
        have l2 := lt_of_blk HK4.out.res
        by_cases h64 : 64 < W.size
        · have HE := Lib.hid (HR2.trans (if_pos h64))
          clear HR2
          go_wp2_with fail
          obtain ⟨g1, g2⟩ := HK4.out.fin (.int .i64 0) (.string ⟨#[]⟩) (.int .i64 0) (.int .i64 0)
          refine bodyPost_ret (v := .tuple #[tokV 0 ⟨#[]⟩ 0 0, .int .i64 (q : Int), .int .i64 2]) (rnext_result g1 rfl rfl rfl) rfl ?_
          exact ⟨g2, .inr ⟨2, q, HE.out, hqs, rfl⟩⟩
        · have HE := Lib.hid (HR2.trans (if_neg h64))
          clear HR2
          go_wp2_with fail
          obtain ⟨g1, g2⟩ := HK4.out.fin (.int .i64 1) (.string W) (.int .i64 0) (.int .i64 (q : Int))
          refine bodyPost_ret (v := .tuple #[tokV 1 W 0 q, .int .i64 (J : Int), .int .i64 0]) (rnext_result g1 rfl rfl rfl) rfl ?_
          exact ⟨g2, .inl ⟨1, wd, 0, q, J, W, HE.out, hqs, hJ2, HW.out, rfl⟩⟩

    case false =>
    rw [hl] at hle HR1
    have HR2 := HR1.out.trans (if_neg (by decide))
    clear HR1
    cases hd : digitN s[q].toNat
    case true =>
      rw [hd] at hdi HR2
      have HR3 := HR2.trans (if_pos rfl)
      have hJ := runE_le (f := digitN) hqs
      have HW := Lib.hid (mid_eq s q (runE digitN s q))
      have hWs : (s.extract q (runE digitN s q)).size ≤ 16777216 := by rw [← sb_len, HW.out, midL_len s hJ.2]; omega
      have hpa := rparse_anyL (s.extract q (runE digitN s q)) w2 hWs
      rw [HW.out] at hpa
      clear HR2 HW hWs
      generalize pe (midL s q (runE digitN s q)) = P at *
      generalize pv (midL s q (runE digitN s q)) = V at *
      obtain ⟨J, hJe⟩ : ∃ J, runE digitN s q = J := ⟨_, rfl⟩
      have HJ := Lib.hid hJe
      rw [hJe] at HR3 hJ hpa
      have HRx := Lib.hid HR3
      clear HR3 hJe
      obtain ⟨hJ1, hJ2⟩ := hJ
      go_upto_region 13 with (first | (go_at_call 63; refine hle.mono ?_; rintro e w' ⟨rfl, rfl⟩))
      clear hle
      go_upto_region 23 with (first | (go_at_call 66; refine hdi.mono ?_; rintro e w' ⟨rfl, rfl⟩))
      clear hdi
      go_upto_region 24 with fail
      go_loopw [11] (fun v wr => ∃ t : Nat, q ≤ t ∧ t ≤ s.size ∧ v = .int .i64 (t : Int) ∧ Hid (runE digitN s t = J) ∧ w2 = wr) (fun v _ => s.size - (intOf v).toNat)
      case atStart => exact ⟨q, Nat.le_refl _, hqs, rfl, HJ, rfl⟩
      case round =>
        clear HJ
        obtain ⟨t, hqt, ht, rfl, HJ, rfl⟩ := hrel
        have hpa2 := hpa
        by_cases hlt2 : t < s.size
        case neg =>
          have e : t = J := by
            have e1 : t = s.size := by omega
            rw [← HJ.out, e1, runE_end]
          subst e
          clear hpa
          go_upto_region 27 with (first | (go_at_call 67; refine hpa2.mono ?_; rintro e w' ⟨rfl, rfl⟩))
          clear hpa2
          by_cases hP : P = 0
          · subst hP
            have HE := Lib.hid (HRx.out.trans (if_pos rfl))
            clear HRx
            go_wp2_with fail
            obtain ⟨g1, g2⟩ := ((HK.out.set (x0 := .int .i64 3) (x1 := .string ⟨#[]⟩) (x2 := .int .i64 0) (x3 := .int .i64 (q : Int)) 0 (.int .i64 3) rfl).set (x0 := .int .i64 3) (x1 := .string ⟨#[]⟩) (x2 := .int .i64 V) (x3 := .int .i64 (q : Int)) 2 (.int .i64 V) rfl).fin (.int .i64 3) (.string ⟨#[]⟩) (.int .i64 V) (.int .i64 (q : Int))
            refine bodyPost_ret (v := .tuple #[tokV 3 ⟨#[]⟩ V q, .int .i64 (t : Int), .int .i64 0]) (rnext_result g1 rfl rfl rfl) rfl ?_
            exact ⟨g2, .inl ⟨3, [], V, q, t, ⟨#[]⟩, HE.out, hqs, hJ2, rfl, rfl⟩⟩
          · have HE := Lib.hid (HRx.out.trans (if_neg hP))
            have hPb : (P != 0) = true := by rw [bne_iff_ne]; exact hP
            clear HRx hP
            go_wp2_with fail
            obtain ⟨g1, g2⟩ := HK.out.fin (.int .i64 0) (.string ⟨#[]⟩) (.int .i64 0) (.int .i64 0)
            refine bodyPost_ret (v := .tuple #[tokV 0 ⟨#[]⟩ 0 0, .int .i64 (q : Int), .int .i64 P]) (rnext_result g1 rfl rfl rfl) rfl ?_
            exact ⟨g2, .inr ⟨P, q, HE.out, hqs, rfl⟩⟩
        have hb8 := s[t].toNat_lt
        have hdt := rdigit_any s[t].toNat w2 hb8
        cases hv : digitN s[t].toNat
        · have e : t = J := by rw [← HJ.out, runE_stop hlt2 hv]
          subst e
          rw [hv] at hdt
          clear hpa
          go_upto_region 27 with (first | (go_at_call 66; refine hdt.mono ?_; rintro e w' ⟨rfl, rfl⟩) | (go_at_call 67; refine hpa2.mono ?_; rintro e w' ⟨rfl, rfl⟩))
          clear hdt
          clear hpa2
          by_cases hP : P = 0
          · subst hP
            have HE := Lib.hid (HRx.out.trans (if_pos rfl))
            clear HRx
            go_wp2_with fail
            obtain ⟨g1, g2⟩ := ((HK.out.set (x0 := .int .i64 3) (x1 := .string ⟨#[]⟩) (x2 := .int .i64 0) (x3 := .int .i64 (q : Int)) 0 (.int .i64 3) rfl).set (x0 := .int .i64 3) (x1 := .string ⟨#[]⟩) (x2 := .int .i64 V) (x3 := .int .i64 (q : Int)) 2 (.int .i64 V) rfl).fin (.int .i64 3) (.string ⟨#[]⟩) (.int .i64 V) (.int .i64 (q : Int))
            refine bodyPost_ret (v := .tuple #[tokV 3 ⟨#[]⟩ V q, .int .i64 (t : Int), .int .i64 0]) (rnext_result g1 rfl rfl rfl) rfl ?_
            exact ⟨g2, .inl ⟨3, [], V, q, t, ⟨#[]⟩, HE.out, hqs, hJ2, rfl, rfl⟩⟩
          · have HE := Lib.hid (HRx.out.trans (if_neg hP))
            have hPb : (P != 0) = true := by rw [bne_iff_ne]; exact hP
            clear HRx hP
            go_wp2_with fail
            obtain ⟨g1, g2⟩ := HK.out.fin (.int .i64 0) (.string ⟨#[]⟩) (.int .i64 0) (.int .i64 0)
            refine bodyPost_ret (v := .tuple #[tokV 0 ⟨#[]⟩ 0 0, .int .i64 (q : Int), .int .i64 P]) (rnext_result g1 rfl rfl rfl) rfl ?_
            exact ⟨g2, .inr ⟨P, q, HE.out, hqs, rfl⟩⟩
        · have HS := Lib.hid ((runE_step hlt2 hv).symm.trans HJ.out)
          rw [hv] at hdt
          clear hpa hpa2
          go_wp2_with (first | (go_at_call 66; refine hdt.mono ?_; rintro e w' ⟨rfl, rfl⟩))
          go_roundw
          case rel => exact ⟨t + 1, by omega, hlt2, rfl, HS, trivial⟩
          case measure => simp [intOf]; omega
    case false =>
    rw [hd] at hdi HR2
    have HR3 := HR2.trans (if_neg (by decide))
    have hcz : ¬ (s[q].toNat = 0) ∨ s[q].toNat = 0 := by omega
    clear HR2
    by_cases h36 : s[q].toNat = 36
    · have HR4 := HR3.trans (if_pos h36)
      have e36 : ((s[q].toNat : Int) == 36) = true := by rw [beq_iff_eq]; omega
      clear HR3 h36 hcz
      by_cases hq1 : q + 1 = s.size
      · have HE := Lib.hid (HR4.trans (if_pos hq1))
        have hb : ((q : Int) + 1 == (s.size : Int)) = true := by rw [beq_iff_eq]; omega
        clear HR4 hq1
        go_wp2_with (first | (go_at_call 63; refine hle.mono ?_; rintro e w' ⟨rfl, rfl⟩) | (go_at_call 66; refine hdi.mono ?_; rintro e w' ⟨rfl, rfl⟩))
        obtain ⟨g1, g2⟩ := HK.out.fin (.int .i64 0) (.string ⟨#[]⟩) (.int .i64 0) (.int .i64 0)
        refine bodyPost_ret (v := .tuple #[tokV 0 ⟨#[]⟩ 0 0, .int .i64 (q : Int), .int .i64 4]) (rnext_result g1 rfl rfl rfl) rfl ?_
        exact ⟨g2, .inr ⟨4, q, HE.out, hqs, rfl⟩⟩
      · have hlt1 : q + 1 < s.size := by omega
        have hb : ((q : Int) + 1 == (s.size : Int)) = false := by rw [beq_eq_false_iff_ne]; omega
        have hb8 : (s[q + 1].toNat : Int) ≤ 255 := by have := s[q + 1].toNat_lt; omega
        have HE : Hid (r = .inl (3, [], (s[q + 1].toNat : Int), q, q + 2)) := Lib.hid (by rw [HR4, if_neg hq1, lookB_at hlt1])
        clear HR4 hq1
        go_wp2_with (first | (go_at_call 63; refine hle.mono ?_; rintro e w' ⟨rfl, rfl⟩) | (go_at_call 66; refine hdi.mono ?_; rintro e w' ⟨rfl, rfl⟩))
        obtain ⟨g1, g2⟩ := ((HK.out.set (x0 := .int .i64 3) (x1 := .string ⟨#[]⟩) (x2 := .int .i64 0) (x3 := .int .i64 (q : Int)) 0 (.int .i64 3) rfl).set (x0 := .int .i64 3) (x1 := .string ⟨#[]⟩) (x2 := .int .i64 (s[q + 1].toNat : Int)) (x3 := .int .i64 (q : Int)) 2 (.int .i64 (s[q + 1].toNat : Int)) rfl).fin (.int .i64 3) (.string ⟨#[]⟩) (.int .i64 (s[q + 1].toNat : Int)) (.int .i64 (q : Int))
        refine bodyPost_ret (v := .tuple #[tokV 3 ⟨#[]⟩ (s[q + 1].toNat : Int) q, .int .i64 ((q + 2 : Nat) : Int), .int .i64 0]) (rnext_result g1 rfl rfl rfl) rfl ?_
        exact ⟨g2, .inl ⟨3, [], (s[q + 1].toNat : Int), q, q + 2, ⟨#[]⟩, HE.out, hqs, hlt1, rfl, rfl⟩⟩
    have HR4 := HR3.trans (if_neg h36)
    have e36 : ((s[q].toNat : Int) == 36) = false := by rw [beq_eq_false_iff_ne]; omega
    clear HR3
    by_cases h39 : s[q].toNat = 39
    · have HR5 := HR4.trans (if_pos h39)
      have e39 : ((s[q].toNat : Int) == 39) = true := by rw [beq_iff_eq]; omega
      have htx := rtext_s s q w2 hs hlt
      rw [txt_quo] at htx
      clear HR4 h36 h39 hcz
      generalize quoA (q + 1) ((sb s).drop (q + 1)) = qr at *
      go_upto_region 40 with (first | (go_at_call 63; refine hle.mono ?_; rintro e w' ⟨rfl, rfl⟩) | (go_at_call 66; refine hdi.mono ?_; rintro e w' ⟨rfl, rfl⟩))
      clear hle hdi
      go_upto_region 41 with (first | (go_at_call 68; refine htx.mono ?_; rintro e w3 ⟨hb3, (⟨hn, rfl⟩ | ⟨t, p3, hn, hp1, hp2, htl, rfl⟩)⟩))
      · cases qr with
        | some p3 => cases hn
        | none =>
        have HK3 := Lib.hid (HK.out.below hb3)
        have HE : Hid (r = .inr (4, q)) := Lib.hid HR5
        clear f1 f2 l1 l2 htx hn HR5 HK hb3
        have f1 := cells4L HK3.out.tok
        have f2 := cells4L HK3.out.res
        have l1 := lt_of_blk HK3.out.tok
        have l2 := lt_of_blk HK3.out.res
        go_wp2_with fail
        obtain ⟨g1, g2⟩ := HK3.out.fin (.int .i64 0) (.string ⟨#[]⟩) (.int .i64 0) (.int .i64 0)
        refine bodyPost_ret (v := .tuple #[tokV 0 ⟨#[]⟩ 0 0, .int .i64 (q : Int), .int .i64 4]) (rnext_result g1 rfl rfl rfl) rfl ?_
        exact ⟨g2, .inr ⟨4, q, HE.out, hqs, rfl⟩⟩
      · cases qr with
        | none => cases hn
        | some p4 =>
        simp only [Option.map_some, Option.some.injEq, Prod.mk.injEq] at hn
        obtain ⟨hn1, hn2⟩ := hn
        subst hn2
        have HR6 := HR5
        simp only [hn1] at HR6
        have HK3 := Lib.hid (HK.out.below hb3)
        have htz : (mkB t).size = t.length := mkB_size t
        have hts : (mkB t).size ≤ 16777216 := by omega
        have HW := Lib.hid (show sb (mkB t) = t from sb_mk t)
        rw [← htz] at HR6
        clear f1 f2 l1 l2 htx hn1 HR5 HK hb3 htz
        generalize mkB t = W at *
        have f1 := cells4L HK3.out.tok
        have f2 := cells4L HK3.out.res
        have l1 := lt_of_blk HK3.out.tok
        have l2 := lt_of_blk HK3.out.res
        by_cases h64 : 4096 < W.size
        · have HE := Lib.hid (HR6.trans (if_pos h64))
          clear HR6
          go_wp2_with fail
          obtain ⟨g1, g2⟩ := HK3.out.fin (.int .i64 0) (.string ⟨#[]⟩) (.int .i64 0) (.int .i64 0)
          refine bodyPost_ret (v := .tuple #[tokV 0 ⟨#[]⟩ 0 0, .int .i64 (q : Int), .int .i64 2]) (rnext_result g1 rfl rfl rfl) rfl ?_
          exact ⟨g2, .inr ⟨2, q, HE.out, hqs, rfl⟩⟩
        · have HE := Lib.hid (HR6.trans (if_neg h64))
          clear HR6
          go_wp2_with fail
          obtain ⟨g1, g2⟩ := ((HK3.out.set (x0 := .int .i64 4) (x1 := .string ⟨#[]⟩) (x2 := .int .i64 0) (x3 := .int .i64 (q : Int)) 0 (.int .i64 4) rfl).set (x0 := .int .i64 4) (x1 := .string W) (x2 := .int .i64 0) (x3 := .int .i64 (q : Int)) 1 (.string W) rfl).fin (.int .i64 4) (.string W) (.int .i64 0) (.int .i64 (q : Int))
          refine bodyPost_ret (v := .tuple #[tokV 4 W 0 q, .int .i64 (p4 : Int), .int .i64 0]) (rnext_result g1 rfl rfl rfl) rfl ?_
          exact ⟨g2, .inl ⟨4, t, 0, q, p4, W, HE.out, hqs, hp2, HW.out, rfl⟩⟩
    have HR5 := HR4.trans (if_neg h39)
    have e39 : ((s[q].toNat : Int) == 39) = false := by rw [beq_eq_false_iff_ne]; omega
    clear HR4
    by_cases h35 : s[q].toNat = 35
    · have HR6 := HR5.trans (if_pos h35)
      have e35 : ((s[q].toNat : Int) == 35) = true := by rw [beq_iff_eq]; omega
      have hsy := rsymbol_any s q w2 hs hlt
      rw [← HR6] at hsy
      clear HR5 HR6 h36 h39 h35 hcz
      go_upto_region 49 with (first | (go_at_call 63; refine hle.mono ?_; rintro e w' ⟨rfl, rfl⟩) | (go_at_call 66; refine hdi.mono ?_; rintro e w' ⟨rfl, rfl⟩))
      clear hle hdi
      go_wp2_with fail
      refine hsy.mono ?_
      rintro e w3 ⟨hb3, (⟨k, t, n, q3, p3, tb, hr3, hq3, hp3, htb, rfl⟩ | ⟨n, q3, hr3, hq3, rfl⟩)⟩
      · have HK3 := Lib.hid (HK.out.below hb3)
        clear f1 f2 l1 l2 hsy HK hb3
        have f1 := cells4L HK3.out.tok
        have f2 := cells4L HK3.out.res
        have l1 := lt_of_blk HK3.out.tok
        have l2 := lt_of_blk HK3.out.res
        have HX := Lib.hid (And.intro hr3 htb)
        clear hr3 htb
        unfold tokV
        go_wp2_with fail
        obtain ⟨g1, g2⟩ := HK3.out.fin (.int .i64 (k : Int)) (.string tb) (.int .i64 n) (.int .i64 (q3 : Int))
        refine bodyPost_ret (v := .tuple #[tokV k tb n q3, .int .i64 (p3 : Int), .int .i64 0]) (rnext_result g1 rfl rfl rfl) rfl ?_
        exact ⟨g2, .inl ⟨k, t, n, q3, p3, tb, HX.out.1, hq3, hp3, HX.out.2, rfl⟩⟩
      · have HK3 := Lib.hid (HK.out.below hb3)
        clear f1 f2 l1 l2 hsy HK hb3
        have f1 := cells4L HK3.out.tok
        have f2 := cells4L HK3.out.res
        have l1 := lt_of_blk HK3.out.tok
        have l2 := lt_of_blk HK3.out.res
        have HX := Lib.hid hr3
        clear hr3
        unfold tokV
        go_wp2_with fail
        obtain ⟨g1, g2⟩ := HK3.out.fin (.int .i64 0) (.string ⟨#[]⟩) (.int .i64 0) (.int .i64 0)
        refine bodyPost_ret (v := .tuple #[tokV 0 ⟨#[]⟩ 0 0, .int .i64 (q3 : Int), .int .i64 n]) (rnext_result g1 rfl rfl rfl) rfl ?_
        exact ⟨g2, .inr ⟨n, q3, HX.out, hq3, rfl⟩⟩
    have HR6 := HR5.trans (if_neg h35)
    have e35 : ((s[q].toNat : Int) == 35) = false := by rw [beq_eq_false_iff_ne]; omega
    have hoe := opF_eq s q hqs
    rw [HLK.out] at hoe
    unfold markR at HR6
    rw [HLK.out] at HR6
    clear HR5 h36 h39 h35 hcz
    by_cases h58 : s[q].toNat = 58
    · have e58 : ((s[q].toNat : Int) == 58) = true := by rw [beq_iff_eq]; omega
      have h0 : opF s q 2 = 0 := by rw [hoe, h58]; rfl
      have HR7 : r = if lookB s (q + 1) ≠ 61 then .inl (16, [], 0, q, q + 1) else .inl (7, [], 0, q, q + 2) := by
        rw [HR6, if_neg (fun h => h h0), h58, if_neg (by decide), if_neg (by decide)]
        split <;> rfl
      clear HR6 hoe h58 h0
      by_cases h1 : q + 1 < s.size
      · rw [lookB_at h1] at HR7
        by_cases h61 : s[q + 1].toNat = 61
        · have HE := Lib.hid (HR7.trans (if_neg (fun h => h h61)))
          have e61 : ((s[q + 1].toNat : Int) == 61) = true := by rw [beq_iff_eq]; omega
          clear HR7 h61
          go_wp2_with (first | (go_at_call 63; refine hle.mono ?_; rintro e w' ⟨rfl, rfl⟩) | (go_at_call 66; refine hdi.mono ?_; rintro e w' ⟨rfl, rfl⟩))
          obtain ⟨g1, g2⟩ := (HK.out.set (x0 := .int .i64 7) (x1 := .string ⟨#[]⟩) (x2 := .int .i64 0) (x3 := .int .i64 (q : Int)) 0 (.int .i64 7) rfl).fin (.int .i64 7) (.string ⟨#[]⟩) (.int .i64 0) (.int .i64 (q : Int))
          refine bodyPost_ret (v := .tuple #[tokV 7 ⟨#[]⟩ 0 q, .int .i64 ((q + 2 : Nat) : Int), .int .i64 0]) (rnext_result g1 rfl rfl rfl) rfl ?_
          exact ⟨g2, .inl ⟨7, [], 0, q, q + 2, ⟨#[]⟩, HE.out, hqs, h1, rfl, rfl⟩⟩
        · have HE := Lib.hid (HR7.trans (if_pos h61))
          have e61 : ((s[q + 1].toNat : Int) == 61) = false := by rw [beq_eq_false_iff_ne]; omega
          clear HR7 h61
          go_wp2_with (first | (go_at_call 63; refine hle.mono ?_; rintro e w' ⟨rfl, rfl⟩) | (go_at_call 66; refine hdi.mono ?_; rintro e w' ⟨rfl, rfl⟩))
          obtain ⟨g1, g2⟩ := (HK.out.set (x0 := .int .i64 16) (x1 := .string ⟨#[]⟩) (x2 := .int .i64 0) (x3 := .int .i64 (q : Int)) 0 (.int .i64 16) rfl).fin (.int .i64 16) (.string ⟨#[]⟩) (.int .i64 0) (.int .i64 (q : Int))
          refine bodyPost_ret (v := .tuple #[tokV 16 ⟨#[]⟩ 0 q, .int .i64 ((q + 1 : Nat) : Int), .int .i64 0]) (rnext_result g1 rfl rfl rfl) rfl ?_
          exact ⟨g2, .inl ⟨16, [], 0, q, q + 1, ⟨#[]⟩, HE.out, hqs, by omega, rfl, rfl⟩⟩
      · have HE := Lib.hid (HR7.trans (if_pos (by rw [lookB_no (by omega)]; decide)))
        clear HR7
        go_wp2_with (first | (go_at_call 63; refine hle.mono ?_; rintro e w' ⟨rfl, rfl⟩) | (go_at_call 66; refine hdi.mono ?_; rintro e w' ⟨rfl, rfl⟩))
        obtain ⟨g1, g2⟩ := (HK.out.set (x0 := .int .i64 16) (x1 := .string ⟨#[]⟩) (x2 := .int .i64 0) (x3 := .int .i64 (q : Int)) 0 (.int .i64 16) rfl).fin (.int .i64 16) (.string ⟨#[]⟩) (.int .i64 0) (.int .i64 (q : Int))
        refine bodyPost_ret (v := .tuple #[tokV 16 ⟨#[]⟩ 0 q, .int .i64 ((q + 1 : Nat) : Int), .int .i64 0]) (rnext_result g1 rfl rfl rfl) rfl ?_
        exact ⟨g2, .inl ⟨16, [], 0, q, q + 1, ⟨#[]⟩, HE.out, hqs, hlt, rfl, rfl⟩⟩
    have e58 : ((s[q].toNat : Int) == 58) = false := by rw [beq_eq_false_iff_ne]; omega
    have hopw := roper_any s q w2 hs hqs
    have hol := opF_le s q hqs 2
    have HOE := Lib.hid hoe
    have HR7 := Lib.hid HR6
    have HC58 := Lib.hid h58
    clear hoe HR6 h58
    go_upto_region 58 with (first | (go_at_call 63; refine hle.mono ?_; rintro e w' ⟨rfl, rfl⟩) | (go_at_call 66; refine hdi.mono ?_; rintro e w' ⟨rfl, rfl⟩))
    clear hle hdi
    go_loopw [18] (fun v wr => ∃ i : Nat, i ≤ 7 ∧ v = .int .i64 (i : Int) ∧ Hid (∀ j, j < i → (marksL.getD j 0).toNat ≠ s[q].toNat) ∧ w2 = wr) (fun v _ => 7 - (intOf v).toNat)
    case atStart => exact ⟨0, by omega, rfl, Lib.hid (fun j h => absurd h (Nat.not_lt_zero j)), rfl⟩
    case round =>
      obtain ⟨i, hi, rfl, HN, rfl⟩ := hrel
      by_cases hi7 : i = 7
      · subst hi7
        have hix := marks_not s[q].toNat hc8 (fun i => HN.out i.1 i.2)
        have HR8 := HR7.out
        rw [hix] at HR8
        clear HR7 HN hix
        by_cases hn0 : opF s q 2 = 0
        · have HE : Hid (r = .inr (3, q)) := Lib.hid (by rw [HR8, if_neg (fun h => h hn0), if_neg (by decide), if_pos HC58.out]; rfl)
          rw [hn0, Nat.add_zero] at hopw
          clear HR8 hn0 hol HOE HC58
          go_wp2_with (first | (go_at_call 70; refine hopw.mono ?_; rintro e w' ⟨rfl, rfl⟩))
          obtain ⟨g1, g2⟩ := HK.out.fin (.int .i64 0) (.string ⟨#[]⟩) (.int .i64 0) (.int .i64 0)
          refine bodyPost_ret (v := .tuple #[tokV 0 ⟨#[]⟩ 0 0, .int .i64 (q : Int), .int .i64 3]) (rnext_result g1 rfl rfl rfl) rfl ?_
          exact ⟨g2, .inr ⟨3, q, HE.out, hqs, rfl⟩⟩
        · have HE := Lib.hid (HR8.trans (congrArg (ofKw q) (if_pos hn0)))
          have HW := Lib.hid (mid_eq s q (q + opF s q 2))
          have hWs : (s.extract q (q + opF s q 2)).size ≤ 2 := by rw [← sb_len, HW.out, midL_len s hol.1]; omega
          have HWs := Lib.hid hWs
          clear hWs HR8
          generalize midL s q (q + opF s q 2) = wd at *
          generalize hJ : q + opF s q 2 = J at *
          have hjb : ((J : Int) == (q : Int)) = false := by rw [beq_eq_false_iff_ne]; omega
          have hj1 : q ≤ J := by omega
          have hj2 : J ≤ s.size := hol.1
          clear hJ hol hn0 HOE HC58
          go_wp2_with (first | (go_at_call 70; refine hopw.mono ?_; rintro e w' ⟨rfl, rfl⟩))
          obtain ⟨g1, g2⟩ := ((HK.out.set (x0 := .int .i64 6) (x1 := .string ⟨#[]⟩) (x2 := .int .i64 0) (x3 := .int .i64 (q : Int)) 0 (.int .i64 6) rfl).set (x0 := .int .i64 6) (x1 := .string (s.extract q J)) (x2 := .int .i64 0) (x3 := .int .i64 (q : Int)) 1 (.string (s.extract q J)) rfl).fin (.int .i64 6) (.string (s.extract q J)) (.int .i64 0) (.int .i64 (q : Int))
          refine bodyPost_ret (v := .tuple #[tokV 6 (s.extract q J) 0 q, .int .i64 (J : Int), .int .i64 0]) (rnext_result g1 rfl rfl rfl) rfl ?_
          exact ⟨g2, .inl ⟨6, wd, 0, q, J, s.extract q J, HE.out, hqs, hj2, HW.out, rfl⟩⟩
      obtain rfl | rfl | rfl | rfl | rfl | rfl | rfl : i = 0 ∨ i = 1 ∨ i = 2 ∨ i = 3 ∨ i = 4 ∨ i = 5 ∨ i = 6 := by omega
      · by_cases hm : s[q].toNat = 94
        · have hb : ((((⟨#[94, 46, 59, 40, 41, 91, 93]⟩ : ByteArray)[0]'(by decide)).toNat : Int) == (s[q].toNat : Int)) = true := by rw [beq_iff_eq]; exact (show (94 : Int) = (s[q].toNat : Int) by omega)
          have h0 : opF s q 2 = 0 := by rw [HOE.out, hm]; rfl
          have HE : Hid (r = .inl (8, [], 0, q, q + 1)) := Lib.hid (by rw [HR7.out, h0, hm]; rfl)
          clear HR7 h0 hm hol hopw HOE HC58 HN hi7
          go_wp2_with fail
          obtain ⟨g1, g2⟩ := (HK.out.set (x0 := .int .i64 8) (x1 := .string ⟨#[]⟩) (x2 := .int .i64 0) (x3 := .int .i64 (q : Int)) 0 (.int .i64 8) rfl).fin (.int .i64 8) (.string ⟨#[]⟩) (.int .i64 0) (.int .i64 (q : Int))
          refine bodyPost_ret (v := .tuple #[tokV 8 ⟨#[]⟩ 0 q, .int .i64 ((q + 1 : Nat) : Int), .int .i64 0]) (rnext_result g1 rfl rfl rfl) rfl ?_
          exact ⟨g2, .inl ⟨8, [], 0, q, q + 1, ⟨#[]⟩, HE.out, hqs, hlt, rfl, rfl⟩⟩
        · have hb : ((((⟨#[94, 46, 59, 40, 41, 91, 93]⟩ : ByteArray)[0]'(by decide)).toNat : Int) == (s[q].toNat : Int)) = false := by rw [beq_eq_false_iff_ne]; exact (show (94 : Int) ≠ (s[q].toNat : Int) by omega)
          have HN2 : Hid (∀ j, j < 1 → (marksL.getD j 0).toNat ≠ s[q].toNat) := Lib.hid (fun j hj => by
            rcases Nat.lt_or_ge j 0 with h | h
            · exact HN.out j h
            · obtain rfl : j = 0 := by omega
              exact fun e => hm e.symm)
          clear HR7 hm hol hopw HOE HC58 HN hi7
          go_wp2_with fail
          go_roundw
          case rel => exact ⟨1, by omega, rfl, HN2, trivial⟩
          case measure => simp [intOf]
      · by_cases hm : s[q].toNat = 46
        · have hb : ((((⟨#[94, 46, 59, 40, 41, 91, 93]⟩ : ByteArray)[1]'(by decide)).toNat : Int) == (s[q].toNat : Int)) = true := by rw [beq_iff_eq]; exact (show (46 : Int) = (s[q].toNat : Int) by omega)
          have h0 : opF s q 2 = 0 := by rw [HOE.out, hm]; rfl
          have HE : Hid (r = .inl (9, [], 0, q, q + 1)) := Lib.hid (by rw [HR7.out, h0, hm]; rfl)
          clear HR7 h0 hm hol hopw HOE HC58 HN hi7
          go_wp2_with fail
          obtain ⟨g1, g2⟩ := (HK.out.set (x0 := .int .i64 9) (x1 := .string ⟨#[]⟩) (x2 := .int .i64 0) (x3 := .int .i64 (q : Int)) 0 (.int .i64 9) rfl).fin (.int .i64 9) (.string ⟨#[]⟩) (.int .i64 0) (.int .i64 (q : Int))
          refine bodyPost_ret (v := .tuple #[tokV 9 ⟨#[]⟩ 0 q, .int .i64 ((q + 1 : Nat) : Int), .int .i64 0]) (rnext_result g1 rfl rfl rfl) rfl ?_
          exact ⟨g2, .inl ⟨9, [], 0, q, q + 1, ⟨#[]⟩, HE.out, hqs, hlt, rfl, rfl⟩⟩
        · have hb : ((((⟨#[94, 46, 59, 40, 41, 91, 93]⟩ : ByteArray)[1]'(by decide)).toNat : Int) == (s[q].toNat : Int)) = false := by rw [beq_eq_false_iff_ne]; exact (show (46 : Int) ≠ (s[q].toNat : Int) by omega)
          have HN2 : Hid (∀ j, j < 2 → (marksL.getD j 0).toNat ≠ s[q].toNat) := Lib.hid (fun j hj => by
            rcases Nat.lt_or_ge j 1 with h | h
            · exact HN.out j h
            · obtain rfl : j = 1 := by omega
              exact fun e => hm e.symm)
          clear HR7 hm hol hopw HOE HC58 HN hi7
          go_wp2_with fail
          go_roundw
          case rel => exact ⟨2, by omega, rfl, HN2, trivial⟩
          case measure => simp [intOf]
      · by_cases hm : s[q].toNat = 59
        · have hb : ((((⟨#[94, 46, 59, 40, 41, 91, 93]⟩ : ByteArray)[2]'(by decide)).toNat : Int) == (s[q].toNat : Int)) = true := by rw [beq_iff_eq]; exact (show (59 : Int) = (s[q].toNat : Int) by omega)
          have h0 : opF s q 2 = 0 := by rw [HOE.out, hm]; rfl
          have HE : Hid (r = .inl (10, [], 0, q, q + 1)) := Lib.hid (by rw [HR7.out, h0, hm]; rfl)
          clear HR7 h0 hm hol hopw HOE HC58 HN hi7
          go_wp2_with fail
          obtain ⟨g1, g2⟩ := (HK.out.set (x0 := .int .i64 10) (x1 := .string ⟨#[]⟩) (x2 := .int .i64 0) (x3 := .int .i64 (q : Int)) 0 (.int .i64 10) rfl).fin (.int .i64 10) (.string ⟨#[]⟩) (.int .i64 0) (.int .i64 (q : Int))
          refine bodyPost_ret (v := .tuple #[tokV 10 ⟨#[]⟩ 0 q, .int .i64 ((q + 1 : Nat) : Int), .int .i64 0]) (rnext_result g1 rfl rfl rfl) rfl ?_
          exact ⟨g2, .inl ⟨10, [], 0, q, q + 1, ⟨#[]⟩, HE.out, hqs, hlt, rfl, rfl⟩⟩
        · have hb : ((((⟨#[94, 46, 59, 40, 41, 91, 93]⟩ : ByteArray)[2]'(by decide)).toNat : Int) == (s[q].toNat : Int)) = false := by rw [beq_eq_false_iff_ne]; exact (show (59 : Int) ≠ (s[q].toNat : Int) by omega)
          have HN2 : Hid (∀ j, j < 3 → (marksL.getD j 0).toNat ≠ s[q].toNat) := Lib.hid (fun j hj => by
            rcases Nat.lt_or_ge j 2 with h | h
            · exact HN.out j h
            · obtain rfl : j = 2 := by omega
              exact fun e => hm e.symm)
          clear HR7 hm hol hopw HOE HC58 HN hi7
          go_wp2_with fail
          go_roundw
          case rel => exact ⟨3, by omega, rfl, HN2, trivial⟩
          case measure => simp [intOf]
      · by_cases hm : s[q].toNat = 40
        · have hb : ((((⟨#[94, 46, 59, 40, 41, 91, 93]⟩ : ByteArray)[3]'(by decide)).toNat : Int) == (s[q].toNat : Int)) = true := by rw [beq_iff_eq]; exact (show (40 : Int) = (s[q].toNat : Int) by omega)
          have h0 : opF s q 2 = 0 := by rw [HOE.out, hm]; rfl
          have HE : Hid (r = .inl (11, [], 0, q, q + 1)) := Lib.hid (by rw [HR7.out, h0, hm]; rfl)
          clear HR7 h0 hm hol hopw HOE HC58 HN hi7
          go_wp2_with fail
          obtain ⟨g1, g2⟩ := (HK.out.set (x0 := .int .i64 11) (x1 := .string ⟨#[]⟩) (x2 := .int .i64 0) (x3 := .int .i64 (q : Int)) 0 (.int .i64 11) rfl).fin (.int .i64 11) (.string ⟨#[]⟩) (.int .i64 0) (.int .i64 (q : Int))
          refine bodyPost_ret (v := .tuple #[tokV 11 ⟨#[]⟩ 0 q, .int .i64 ((q + 1 : Nat) : Int), .int .i64 0]) (rnext_result g1 rfl rfl rfl) rfl ?_
          exact ⟨g2, .inl ⟨11, [], 0, q, q + 1, ⟨#[]⟩, HE.out, hqs, hlt, rfl, rfl⟩⟩
        · have hb : ((((⟨#[94, 46, 59, 40, 41, 91, 93]⟩ : ByteArray)[3]'(by decide)).toNat : Int) == (s[q].toNat : Int)) = false := by rw [beq_eq_false_iff_ne]; exact (show (40 : Int) ≠ (s[q].toNat : Int) by omega)
          have HN2 : Hid (∀ j, j < 4 → (marksL.getD j 0).toNat ≠ s[q].toNat) := Lib.hid (fun j hj => by
            rcases Nat.lt_or_ge j 3 with h | h
            · exact HN.out j h
            · obtain rfl : j = 3 := by omega
              exact fun e => hm e.symm)
          clear HR7 hm hol hopw HOE HC58 HN hi7
          go_wp2_with fail
          go_roundw
          case rel => exact ⟨4, by omega, rfl, HN2, trivial⟩
          case measure => simp [intOf]
      · by_cases hm : s[q].toNat = 41
        · have hb : ((((⟨#[94, 46, 59, 40, 41, 91, 93]⟩ : ByteArray)[4]'(by decide)).toNat : Int) == (s[q].toNat : Int)) = true := by rw [beq_iff_eq]; exact (show (41 : Int) = (s[q].toNat : Int) by omega)
          have h0 : opF s q 2 = 0 := by rw [HOE.out, hm]; rfl
          have HE : Hid (r = .inl (12, [], 0, q, q + 1)) := Lib.hid (by rw [HR7.out, h0, hm]; rfl)
          clear HR7 h0 hm hol hopw HOE HC58 HN hi7
          go_wp2_with fail
          obtain ⟨g1, g2⟩ := (HK.out.set (x0 := .int .i64 12) (x1 := .string ⟨#[]⟩) (x2 := .int .i64 0) (x3 := .int .i64 (q : Int)) 0 (.int .i64 12) rfl).fin (.int .i64 12) (.string ⟨#[]⟩) (.int .i64 0) (.int .i64 (q : Int))
          refine bodyPost_ret (v := .tuple #[tokV 12 ⟨#[]⟩ 0 q, .int .i64 ((q + 1 : Nat) : Int), .int .i64 0]) (rnext_result g1 rfl rfl rfl) rfl ?_
          exact ⟨g2, .inl ⟨12, [], 0, q, q + 1, ⟨#[]⟩, HE.out, hqs, hlt, rfl, rfl⟩⟩
        · have hb : ((((⟨#[94, 46, 59, 40, 41, 91, 93]⟩ : ByteArray)[4]'(by decide)).toNat : Int) == (s[q].toNat : Int)) = false := by rw [beq_eq_false_iff_ne]; exact (show (41 : Int) ≠ (s[q].toNat : Int) by omega)
          have HN2 : Hid (∀ j, j < 5 → (marksL.getD j 0).toNat ≠ s[q].toNat) := Lib.hid (fun j hj => by
            rcases Nat.lt_or_ge j 4 with h | h
            · exact HN.out j h
            · obtain rfl : j = 4 := by omega
              exact fun e => hm e.symm)
          clear HR7 hm hol hopw HOE HC58 HN hi7
          go_wp2_with fail
          go_roundw
          case rel => exact ⟨5, by omega, rfl, HN2, trivial⟩
          case measure => simp [intOf]
      · by_cases hm : s[q].toNat = 91
        · have hb : ((((⟨#[94, 46, 59, 40, 41, 91, 93]⟩ : ByteArray)[5]'(by decide)).toNat : Int) == (s[q].toNat : Int)) = true := by rw [beq_iff_eq]; exact (show (91 : Int) = (s[q].toNat : Int) by omega)
          have h0 : opF s q 2 = 0 := by rw [HOE.out, hm]; rfl
          have HE : Hid (r = .inl (13, [], 0, q, q + 1)) := Lib.hid (by rw [HR7.out, h0, hm]; rfl)
          clear HR7 h0 hm hol hopw HOE HC58 HN hi7
          go_wp2_with fail
          obtain ⟨g1, g2⟩ := (HK.out.set (x0 := .int .i64 13) (x1 := .string ⟨#[]⟩) (x2 := .int .i64 0) (x3 := .int .i64 (q : Int)) 0 (.int .i64 13) rfl).fin (.int .i64 13) (.string ⟨#[]⟩) (.int .i64 0) (.int .i64 (q : Int))
          refine bodyPost_ret (v := .tuple #[tokV 13 ⟨#[]⟩ 0 q, .int .i64 ((q + 1 : Nat) : Int), .int .i64 0]) (rnext_result g1 rfl rfl rfl) rfl ?_
          exact ⟨g2, .inl ⟨13, [], 0, q, q + 1, ⟨#[]⟩, HE.out, hqs, hlt, rfl, rfl⟩⟩
        · have hb : ((((⟨#[94, 46, 59, 40, 41, 91, 93]⟩ : ByteArray)[5]'(by decide)).toNat : Int) == (s[q].toNat : Int)) = false := by rw [beq_eq_false_iff_ne]; exact (show (91 : Int) ≠ (s[q].toNat : Int) by omega)
          have HN2 : Hid (∀ j, j < 6 → (marksL.getD j 0).toNat ≠ s[q].toNat) := Lib.hid (fun j hj => by
            rcases Nat.lt_or_ge j 5 with h | h
            · exact HN.out j h
            · obtain rfl : j = 5 := by omega
              exact fun e => hm e.symm)
          clear HR7 hm hol hopw HOE HC58 HN hi7
          go_wp2_with fail
          go_roundw
          case rel => exact ⟨6, by omega, rfl, HN2, trivial⟩
          case measure => simp [intOf]
      · by_cases hm : s[q].toNat = 93
        · have hb : ((((⟨#[94, 46, 59, 40, 41, 91, 93]⟩ : ByteArray)[6]'(by decide)).toNat : Int) == (s[q].toNat : Int)) = true := by rw [beq_iff_eq]; exact (show (93 : Int) = (s[q].toNat : Int) by omega)
          have h0 : opF s q 2 = 0 := by rw [HOE.out, hm]; rfl
          have HE : Hid (r = .inl (14, [], 0, q, q + 1)) := Lib.hid (by rw [HR7.out, h0, hm]; rfl)
          clear HR7 h0 hm hol hopw HOE HC58 HN hi7
          go_wp2_with fail
          obtain ⟨g1, g2⟩ := (HK.out.set (x0 := .int .i64 14) (x1 := .string ⟨#[]⟩) (x2 := .int .i64 0) (x3 := .int .i64 (q : Int)) 0 (.int .i64 14) rfl).fin (.int .i64 14) (.string ⟨#[]⟩) (.int .i64 0) (.int .i64 (q : Int))
          refine bodyPost_ret (v := .tuple #[tokV 14 ⟨#[]⟩ 0 q, .int .i64 ((q + 1 : Nat) : Int), .int .i64 0]) (rnext_result g1 rfl rfl rfl) rfl ?_
          exact ⟨g2, .inl ⟨14, [], 0, q, q + 1, ⟨#[]⟩, HE.out, hqs, hlt, rfl, rfl⟩⟩
        · have hb : ((((⟨#[94, 46, 59, 40, 41, 91, 93]⟩ : ByteArray)[6]'(by decide)).toNat : Int) == (s[q].toNat : Int)) = false := by rw [beq_eq_false_iff_ne]; exact (show (93 : Int) ≠ (s[q].toNat : Int) by omega)
          have HN2 : Hid (∀ j, j < 7 → (marksL.getD j 0).toNat ≠ s[q].toNat) := Lib.hid (fun j hj => by
            rcases Nat.lt_or_ge j 6 with h | h
            · exact HN.out j h
            · obtain rfl : j = 6 := by omega
              exact fun e => hm e.symm)
          clear HR7 hm hol hopw HOE HC58 HN hi7
          go_wp2_with fail
          go_roundw
          case rel => exact ⟨7, by omega, rfl, HN2, trivial⟩
          case measure => simp [intOf]
end Go.Proofs.YtponopcnndkalaaGreatDoor.Fl
