/-
  LexSpells: whatever the tokens.
-/
import Derived.Test.YtakijeooaeflkaaGreatDoorLyG
import Derived.Test.YtakijeooaeflkaaGreatDoorLyH
import Derived.Test.YtakijeooaeflkaaGreatDoorToks
import Derived.Test.YtakijeooaeflkaaGreatDoorLxJc
namespace Go.Proofs.YtakijeooaeflkaaGreatDoor.Fl
open Go.RowKit

open Classical in
/-- the tokens that can be spelled, but the End -/
noncomputable def oneSp (x : RTok) : List Tok3 := if okT x.1 (sb x.2.1) x.2.2.1 ∧ x.1 ≠ 0 then [(x.1.toNat, sb x.2.1, x.2.2.1)] else []
noncomputable def spelled : List RTok → List Tok3
  | [] => []
  | x :: l => oneSp x ++ spelled l
theorem spelled_app : ∀ l m : List RTok, spelled (l ++ m) = spelled l ++ spelled m
  | [], _ => rfl
  | x :: l, m => by rw [List.cons_append, spelled, spelled, spelled_app l m, List.append_assoc]
theorem spelled_one (x : RTok) : spelled [x] = oneSp x := by rw [spelled, spelled, List.append_nil]
theorem spelled_take (xs : List RTok) (i : Nat) (h : i < xs.length) : spelled (xs.take (i + 1)) = spelled (xs.take i) ++ oneSp xs[i] := by
  rw [List.take_succ_eq_append_getElem h, spelled_app, spelled_one]
theorem oneSp_yes {x : RTok} (h : okT x.1 (sb x.2.1) x.2.2.1) (h0 : x.1 ≠ 0) : oneSp x = [(x.1.toNat, sb x.2.1, x.2.2.1)] := by unfold oneSp; rw [if_pos ⟨h, h0⟩]
theorem oneSp_no {x : RTok} (h : ¬ (okT x.1 (sb x.2.1) x.2.2.1 ∧ x.1 ≠ 0)) : oneSp x = [] := by unfold oneSp; rw [if_neg h]
theorem oneSp_all (x : RTok) : ∀ y ∈ oneSp x, y.1 ≠ 0 ∧ TokV y.1 y.2.1 y.2.2 := by
  intro y hy
  unfold oneSp at hy
  split at hy
  · next h =>
    obtain rfl := List.mem_singleton.1 hy
    refine ⟨?_, h.1.2⟩
    have h1 := h.1.1
    have h2 := h.2
    show x.1.toNat ≠ 0
    omega
  · cases hy
theorem spelled_all : ∀ xs : List RTok, ∀ y ∈ spelled xs, y.1 ≠ 0 ∧ TokV y.1 y.2.1 y.2.2
  | [], y, hy => by cases hy
  | x :: l, y, hy => by
    rw [spelled, List.mem_append] at hy
    rcases hy with h | h
    · exact oneSp_all x y h
    · exact spelled_all l y h
/-- a word that was cut is none of a token's -/
theorem short_ok (k n : Int) (t : ByteArray) : (okT k (sb (shortB t 5000)) n ↔ okT k (sb t) n) ∧ (okT k (sb t) n → shortB t 5000 = t) := by
  by_cases h : 5000 < t.size
  · have h1 : ¬ okT k (sb t) n := fun ho => by
      have := (okT_bounds ho).2.2.1
      rw [sb_len] at this
      omega
    have h2 : ¬ okT k (sb (shortB t 5000)) n := fun ho => by
      have := (okT_bounds ho).2.2.1
      unfold shortB at this
      rw [if_pos h, sb_extract, List.drop_zero, List.length_take, sb_len] at this
      omega
    exact ⟨⟨fun h => absurd h h2, fun h => absurd h h1⟩, fun h => absurd h h1⟩
  · have e : shortB t 5000 = t := by unfold shortB; rw [if_neg h]
    rw [e]
    exact ⟨Iff.rfl, fun _ => rfl⟩
theorem own9_result {W : World} {C : Nat} {v0 v1 v2 v3 : Value} {a : Array Value} (h : W.heap[C]? = some (.cells #[v0, v1, v2, v3] 30 (0, 0))) (h2 : a[2]?.getD undef = .pointer (some ⟨C, 0, none⟩)) :
    (results Tryz.f11 a).run Tryz.prog W = .ok (.agg #[v0, v1, v2, v3]) W := by
  obtain ⟨c0, c1, c2, c3, _⟩ := cells4L h
  simp [results, Tryz.results11, go_sem, h2, c0, c1, c2, c3]
theorem own9_any (k n q : Int) (t : ByteArray) (w : World) :
    Calls Tryz.prog 11 #[.agg #[.int .i64 k, .string t, .int .i64 n, .int .i64 q]] w fun e w' => e = .returned (.agg #[.int .i64 k, .string t, .int .i64 n, .int .i64 q]) ∧ Below w.heap.size w w' := by
  have hb1 : Below w.heap.size w (w.alloc (.cells #[.int .i64 k, .string t, .int .i64 n, .int .i64 q] 25)) := (Below.refl _ _).alloc (Nat.le_refl _) _
  have hw1 := heap_alloc_new w (.cells #[.int .i64 k, .string t, .int .i64 n, .int .i64 q] 25)
  have f1 := cells4L hw1
  have l1 : w.heap.size < (w.alloc (.cells #[.int .i64 k, .string t, .int .i64 n, .int .i64 q] 25)).heap.size := lt_of_blk hw1
  have HB1 := Lib.hid hb1
  clear hb1
  go_enter Tryz.func11, Tryz.ntmps11
  go_wp2_with fail
  have h2 := heap_alloc_new (w.alloc (.cells #[.int .i64 k, .string t, .int .i64 n, .int .i64 q] 25)) (.cells #[.int .i64 k, .string t, .int .i64 n, .int .i64 q] 30)
  rw [World.size_alloc] at h2
  refine bodyPost_ret (v := .agg #[.int .i64 k, .string t, .int .i64 n, .int .i64 q]) (own9_result h2 rfl) rfl ?_
  exact ⟨rfl, HB1.out.alloc (by rw [World.size_alloc]; omega) _⟩
set_option maxRecDepth 100000 in
set_option maxHeartbeats 8000000 in
theorem walkp_LexSpells (A : Option Addr) (cap : Nat) (ys : List RTok) (w : World) (hr : Rd w w.heap.size A (cr ys)) (hc : ys.length ≤ cap) (hok : tokOk ys) (hts : ∀ x ∈ ys, x.2.1.size ≤ 1048576) (henv : EnvL w) (hm : MaxAt w) :
    Calls Tryz.prog 3 #[.slice A ys.length cap] w fun e w' => e = .returned (.bool true) ∧ Below w.heap.size w w' := by
  have haw := awake9_any w hm (fun w' hb => henv.below hb)
  have HEnv := Lib.hid (fun w' (h : Below w.heap.size w w') => And.intro (max_below hm h) (henv.below h))
  obtain ⟨xs, hxs⟩ : ∃ xs, ys.take 40 = xs := ⟨_, rfl⟩
  have hxl : xs.length ≤ 40 := by rw [← hxs, List.length_take]; omega
  have HX := Lib.hid (show xs.length = if 40 < ys.length then 40 else ys.length by
    rw [← hxs, List.length_take]; split <;> omega)
  have HRx := Lib.hid (show Rd w w.heap.size A (cr xs) by
    rw [← hxs]
    rcases hr with h | ⟨b, off, h1, h2, h3⟩
    · have : ys = [] := by
        have := congrArg List.length h
        rw [cr_len] at this
        exact List.eq_nil_of_length_eq_zero (by simp only [List.length_nil] at this; omega)
      subst this
      exact .inl rfl
    · refine .inr ⟨b, off, h1, h2, fun j v hj => h3 j v ?_⟩
      have e : cr ys = cr (ys.take 40) ++ cr (ys.drop 40) := by rw [← cr_app, List.take_append_drop]
      rw [e, List.getElem?_append_left (List.getElem?_eq_some_iff.1 hj).1]
      exact hj)
  have HKx := Lib.hid (show tokOk xs from fun x hx => hok x (List.mem_of_mem_take (by rw [hxs]; exact hx)))
  have HTx := Lib.hid (show ∀ x ∈ xs, x.2.1.size ≤ 1048576 from fun x hx => hts x (List.mem_of_mem_take (by rw [hxs]; exact hx)))
  clear hr hok hts henv hm hxs
  go_enter Tryz.func3, Tryz.ntmps3
  go_wp2_with fail
  refine haw.mono ?_
  rintro e w1 ⟨rfl, hb1⟩
  clear haw
  have HB1 := Lib.hid hb1
  clear hb1
  generalize ys.length = len at *
  go_upto_if 23 with fail
  go_cut [0] (fun v wx => (∃ c', v = .slice A xs.length c' ∧ xs.length ≤ c') ∧ w1 = wx)
  case first =>
    by_cases hcc : 40 < len
    · have hx2 := HX.out
      rw [if_pos hcc] at hx2
      have hx3 := Lib.hid hx2
      clear hx2
      go_wp2_with fail
      all_goals go_meet
      all_goals exact ⟨⟨cap, by rw [hx3.out], by omega⟩, rfl⟩
    · have hx2 := HX.out
      rw [if_neg hcc] at hx2
      have hx3 := Lib.hid hx2
      clear hx2
      go_wp2_with fail
      all_goals go_meet
      all_goals exact ⟨⟨cap, by rw [hx3.out], by rw [hx3.out]; exact hc⟩, rfl⟩
  case rest =>
    obtain ⟨⟨c', rfl, hc'⟩, rfl⟩ := hcut
    clear HX hc
    go_wp2_with fail
    go_loopw [3, 4, 28] (fun v3 v4 v28 wr => ∃ (i m : Nat) (T : ByteArray), i ≤ xs.length ∧ m ≤ i ∧ v3 = .string T ∧ v4 = .int .i64 (m : Int) ∧ v28 = .int .i64 (i : Int) ∧ T.size ≤ 8197 * i ∧ Hid (sb T = spT (spelled (xs.take i))) ∧ Hid (m = (spelled (xs.take i)).length) ∧ Hid (Below w.heap.size w wr)) (fun _ _ v28 _ => xs.length - (intOf v28).toNat)
    case atStart => exact ⟨0, 0, ⟨#[]⟩, Nat.zero_le _, Nat.le_refl _, rfl, rfl, rfl, Nat.le_refl _, Lib.hid rfl, Lib.hid rfl, HB1⟩
    case round =>
      clear HB1
      obtain ⟨i, m, T, hi, hmi, rfl, rfl, rfl, hT, HT, HM, HB⟩ := hrel
      have hTb : (T.size : Int) ≤ 327880 := by omega
      by_cases hlt : i < xs.length
      · have HSt := Lib.hid (spelled_take xs i hlt)
        have hxm : xs[i] ∈ xs := List.getElem_mem hlt
        have HKi := Lib.hid (HKx.out _ hxm)
        obtain ⟨k, t, n, q, he⟩ : ∃ k t n q, xs[i] = (k, t, n, q) := ⟨_, _, _, _, rfl⟩
        have hcell := crR_at (HRx.out.below HB.out (Nat.le_refl _)) hlt
        rw [he] at hcell HSt HKi
        obtain ⟨b, off, rfl, hb, c0, c1, c2, c3⟩ := hcell
        have hbw := Nat.lt_of_lt_of_le hb HB.out.size
        clear hxm he
        have hnb : Below wr.heap.size wr (wr.alloc (.cells #[.int .i64 k, .string t, .int .i64 n, .int .i64 q] 25)) := (Below.refl _ _).alloc (Nat.le_refl _) _
        have hw2 := heap_alloc_new wr (.cells #[.int .i64 k, .string t, .int .i64 n, .int .i64 q] 25)
        have HB2 := Lib.hid (HB.out.trans (hnb.mono HB.out.size))
        have l2 : wr.heap.size < (wr.alloc (.cells #[.int .i64 k, .string t, .int .i64 n, .int .i64 q] 25)).heap.size := lt_of_blk hw2
        have hsh : ∀ w, Calls Tryz.prog 9 #[.string t, .int .i64 5000] w fun e w' => e = .returned (.string (shortB t 5000)) ∧ w = w' := fun w => (short9_any t 5000 w).mono fun e w' h => ⟨h.1, h.2.symm⟩
        have hus := shortB_size t 5000
        have HSo := Lib.hid (short_ok k n t)
        have HG := Lib.hid (show w.heap.size ≤ wr.heap.size from HB.out.size)
        generalize shortB t 5000 = u at *
        go_upto_region 9 with fail
        obtain ⟨w2, hw2e⟩ : ∃ w2, wr.alloc (.cells #[.int .i64 k, .string t, .int .i64 n, .int .i64 q] 25) = w2 := ⟨_, rfl⟩
        obtain ⟨G, hGe⟩ : ∃ G, wr.heap.size = G := ⟨_, rfl⟩
        simp only [hw2e, hGe] at hw2 HB2 l2 HG ⊢
        clear hnb c0 c1 c2 c3 hw2e hGe HB hb hbw
        have f2 := cells4L hw2
        go_upto_region 10 with (first | (go_at_call 9; refine (hsh _).mono ?_; rintro e w' ⟨rfl, rfl⟩))
        clear hsh
        have hw3 := heap_setCell_same w2 G 1 _ _ (.string u) hw2
        have HB3 := Lib.hid (HB2.out.setCell (p := ⟨G, 1, none⟩) HG.out (.string u))
        clear f2 l2
        generalize w2.setCell ⟨G, 1, none⟩ (.string u) = w3 at *
        change w3.heap[G]? = some (.cells #[.int .i64 k, .string u, .int .i64 n, .int .i64 q] _ _) at hw3
        clear hw2 HB2
        have f3 := cells4L hw3
        have l3 := lt_of_blk hw3
        obtain ⟨⟨hk0, hk1⟩, ⟨hn0, hn1⟩, hq0, hq1⟩ := HKi.out
        have HN := Lib.hid (And.intro hn0 hn1)
        clear hk0 hk1 hn0 hn1 hq0 hq1
        go_wp2_with fail
        refine (own9_any k n q u w3).mono ?_
        rintro e w4 ⟨rfl, hb4⟩
        have HB4 := Lib.hid (HB3.out.trans (hb4.mono HB3.out.size))
        have hw4 := (hb4.block _ l3).trans hw3
        have l4 := lt_of_blk hw4
        have hsp := spellA_any k u n q w4 (by omega) HN.out.1 HN.out.2 (HEnv.out w4 HB4.out).1 (HEnv.out w4 HB4.out).2
        clear f3 l3 hb4 hw3 HB3
        by_cases hok : okT k (sb u) n
        · have HOK := Lib.hid hok
          have hsp2 : Calls Tryz.prog 10 #[.agg #[.int .i64 k, .string u, .int .i64 n, .int .i64 q]] w4 fun e w' => e = .returned (.tuple #[.string (mkB (writK k (sb u) n)), .int .i64 0]) ∧ Below w4.heap.size w4 w' := hsp.mono (by
            rintro e w' ⟨hb, (⟨_, rfl⟩ | ⟨hno, _⟩)⟩
            · exact ⟨rfl, hb⟩
            · exact absurd HOK.out hno)
          clear hsp
          go_wp2_with fail
          refine hsp2.mono ?_
          rintro e w5 ⟨rfl, hb5⟩
          have HB5 := Lib.hid (HB4.out.trans (hb5.mono HB4.out.size))
          have hw5 := (hb5.block _ l4).trans hw4
          have f5 := cells4L hw5
          have l5 := lt_of_blk hw5
          clear hsp2 hb5 hw4 l4 HB4
          have hrs : Calls Tryz.prog 12 #[.agg #[.int .i64 k, .string u, .int .i64 n, .int .i64 q]] w5 fun e w' => e = .returned (.tuple #[.string (mkB (writK k (sb u) n)), .bool true]) ∧ Below w5.heap.size w5 w' := (rspell_any k u n q w5 (by omega) HN.out.1 HN.out.2).mono (by
            rintro e w' ⟨hb, (⟨_, rfl⟩ | ⟨hno, _⟩)⟩
            · exact ⟨rfl, hb⟩
            · exact absurd HOK.out hno)
          go_wp2_with fail
          refine hrs.mono ?_
          rintro e w6 ⟨rfl, hb6⟩
          have HB6 := Lib.hid (HB5.out.trans (hb6.mono HB5.out.size))
          have hw6 := (hb6.block _ l5).trans hw5
          have f6 := cells4L hw6
          have l6 := lt_of_blk hw6
          clear hrs hb6 hw5 f5 l5 HB5
          have hbd := okT_bounds hok
          have hut : u = t := HSo.out.2 (HSo.out.1.1 hok)
          subst hut
          have hSz : (mkB (writK k (sb u) n)).size ≤ 8196 := by rw [mkB_size]; exact hbd.2.2.2.2
          have HSb : Hid (sb (mkB (writK k (sb u) n)) = writK k (sb u) n) := Lib.hid (sb_mk _)
          obtain ⟨S, hS⟩ : ∃ S, mkB (writK k (sb u) n) = S := ⟨_, rfl⟩
          rw [hS] at HSb hSz ⊢
          clear hS
          have hSzi : (S.size : Int) ≤ 8196 := by omega
          by_cases h0 : k = 0
          · have HO := Lib.hid (oneSp_no (x := (k, u, n, q)) (fun h => h.2 h0))
            have h0b : (k != 0) = false := by rw [bne_eq_false_iff_eq]; exact h0
            clear hok hbd h0 HSb
            go_wp2_with fail
            go_roundw
            case rel => exact ⟨i + 1, m, T, hlt, by omega, rfl, rfl, rfl, by omega, Lib.hid (by rw [HSt.out, HO.out, List.append_nil]; exact HT.out), Lib.hid (by rw [HSt.out, HO.out, List.append_nil]; exact HM.out), HB6⟩
            case measure => simp [intOf]; omega
          · have HO := Lib.hid (oneSp_yes (x := (k, u, n, q)) hok h0)
            have h0b : (k != 0) = true := by rw [bne_iff_ne]; exact h0
            have HW := Lib.hid (show writK k (sb u) n = writL k.toNat (sb u) n by unfold writK; rw [if_pos hbd.1])
            clear hok hbd h0
            go_wp2_with fail
            go_roundw
            case rel =>
              refine ⟨i + 1, m + 1, T ++ (S ++ ⟨#[32]⟩), hlt, by omega, rfl, rfl, rfl, ?_, Lib.hid ?_, Lib.hid ?_, HB6⟩
              · rw [ByteArray.size_append, ByteArray.size_append]
                have : (⟨#[32]⟩ : ByteArray).size = 1 := rfl
                omega
              · rw [HSt.out, HO.out, spT_app, sb_append, sb_append, HT.out, HSb.out, HW.out]
                rfl
              · rw [HSt.out, HO.out, List.length_append, ← HM.out]
                rfl
            case measure => simp [intOf]; omega
        · have HOK := Lib.hid hok
          have hsp2 : Calls Tryz.prog 10 #[.agg #[.int .i64 k, .string u, .int .i64 n, .int .i64 q]] w4 fun e w' => e = .returned (.tuple #[.string ⟨#[]⟩, .int .i64 1]) ∧ Below w4.heap.size w4 w' := hsp.mono (by
            rintro e w' ⟨hb, (⟨hno, _⟩ | ⟨_, rfl⟩)⟩
            · exact absurd hno HOK.out
            · exact ⟨rfl, hb⟩)
          clear hsp
          go_wp2_with fail
          refine hsp2.mono ?_
          rintro e w5 ⟨rfl, hb5⟩
          have HB5 := Lib.hid (HB4.out.trans (hb5.mono HB4.out.size))
          have hw5 := (hb5.block _ l4).trans hw4
          have f5 := cells4L hw5
          have l5 := lt_of_blk hw5
          clear hsp2 hb5 hw4 l4 HB4
          have hrs : Calls Tryz.prog 12 #[.agg #[.int .i64 k, .string u, .int .i64 n, .int .i64 q]] w5 fun e w' => (∃ S, e = .returned (.tuple #[.string S, .bool false])) ∧ Below w5.heap.size w5 w' := (rspell_any k u n q w5 (by omega) HN.out.1 HN.out.2).mono (by
            rintro e w' ⟨hb, (⟨hno, _⟩ | ⟨_, S, rfl⟩)⟩
            · exact absurd hno HOK.out
            · exact ⟨⟨S, rfl⟩, hb⟩)
          go_wp2_with fail
          refine hrs.mono ?_
          rintro e w6 ⟨⟨S, rfl⟩, hb6⟩
          have HB6 := Lib.hid (HB5.out.trans (hb6.mono HB5.out.size))
          have hw6 := (hb6.block _ l5).trans hw5
          have f6 := cells4L hw6
          have l6 := lt_of_blk hw6
          have HO := Lib.hid (oneSp_no (x := (k, t, n, q)) (fun h => HOK.out (HSo.out.1.2 h.1)))
          clear hrs hb6 hw5 f5 l5 HB5 hok
          go_wp2_with fail
          go_roundw
          case rel => exact ⟨i + 1, m, T, hlt, by omega, rfl, rfl, rfl, by omega, Lib.hid (by rw [HSt.out, HO.out, List.append_nil]; exact HT.out), Lib.hid (by rw [HSt.out, HO.out, List.append_nil]; exact HM.out), HB6⟩
          case measure => simp [intOf]; omega
      · have hix : i = xs.length := by omega
        rw [hix, List.take_length] at HT HM
        have hal := sp_all (spelled xs) T 0 (by rw [List.drop_zero]; exact HT.out) (Nat.zero_le _) (spelled_all xs)
        obtain ⟨l', hl1, hl2⟩ := hal
        have hll : l'.length = m + 1 := by
          have := congrArg List.length hl2
          rw [List.length_map, List.length_append, ← HM.out] at this
          exact this
        have HL1 := Lib.hid hl1
        have HL2 := Lib.hid hl2
        have HLL := Lib.hid hll
        have hall := all_any T wr (by omega) (HEnv.out wr HB.out).1 (fun w2 h2 => (HEnv.out w2 (HB.out.trans (h2.mono HB.out.size))).2)
        clear hl1 hl2 hll hix HT hT hTb
        go_wp2_with fail
        refine hall.mono ?_
        rintro e w6 ⟨hb6, (⟨l2, A6, c6, hl6, rfl, ho6⟩ | ⟨n6, q6, hl6, _⟩)⟩
        case inr => rw [HL1.out] at hl6; cases hl6
        rw [HL1.out] at hl6
        injection hl6 with hl6
        subst hl6
        have HB6 := Lib.hid (HB.out.trans (hb6.mono HB.out.size))
        have HZ6 := Lib.hid (ownK_rd ho6)
        have HRy := Lib.hid ((HRx.out.below HB6.out (Nat.le_refl _)).more HB6.out.size)
        clear hall hb6 ho6 HB HL1
        rw [HLL.out]
        go_wp2_with fail
        go_loopw [14, 101] (fun v14 v101 wi => ∃ (j p : Nat), j ≤ xs.length ∧ p ≤ j ∧ v14 = .int .i64 (p : Int) ∧ v101 = .int .i64 (j : Int) ∧ Hid (p = (spelled (xs.take j)).length) ∧ Hid (Below w6.heap.size w6 wi)) (fun _ v101 _ => xs.length - (intOf v101).toNat)
        case atStart => exact ⟨0, 0, Nat.zero_le _, Nat.le_refl _, rfl, rfl, Lib.hid rfl, Lib.hid (Below.refl _ _)⟩
        case round =>
          obtain ⟨j, p, hj, hpj, rfl, rfl, HP, HBj⟩ := hrel
          by_cases hjl : j < xs.length
          · have HSt := Lib.hid (spelled_take xs j hjl)
            have hxm : xs[j] ∈ xs := List.getElem_mem hjl
            have HKi := Lib.hid (HKx.out _ hxm)
            have HTi := Lib.hid (HTx.out _ hxm)
            have hat : ∀ y, oneSp xs[j] = [y] → (spelled xs)[p]? = some y := fun y hy => by
              have e : spelled xs = spelled (xs.take j) ++ (oneSp xs[j] ++ spelled (xs.drop (j + 1))) := by
                conv => lhs; rw [← List.take_append_drop j xs, List.drop_eq_getElem_cons hjl, spelled_app, spelled]
              rw [e, HP.out, List.getElem?_append_right (Nat.le_refl _), Nat.sub_self, hy]
              rfl
            have HAt := Lib.hid hat
            obtain ⟨k, t, n, q, he⟩ : ∃ k t n q, xs[j] = (k, t, n, q) := ⟨_, _, _, _, rfl⟩
            have hcell := crR_at (HRy.out.below HBj.out (Nat.le_refl _)) hjl
            rw [he] at hcell HSt HKi HAt HTi
            obtain ⟨b, off, rfl, hb, c0, c1, c2, c3⟩ := hcell
            have hbw := Nat.lt_of_lt_of_le hb HBj.out.size
            have hnb : Below wr.heap.size wr (wr.alloc (.cells #[.int .i64 k, .string t, .int .i64 n, .int .i64 q] 25)) := (Below.refl _ _).alloc (Nat.le_refl _) _
            have hw2 := heap_alloc_new wr (.cells #[.int .i64 k, .string t, .int .i64 n, .int .i64 q] 25)
            have HB2 := Lib.hid (HBj.out.trans (hnb.mono HBj.out.size))
            have l2 : wr.heap.size < (wr.alloc (.cells #[.int .i64 k, .string t, .int .i64 n, .int .i64 q] 25)).heap.size := lt_of_blk hw2
            obtain ⟨⟨hk0, hk1⟩, ⟨hn0, hn1⟩, hq0, hq1⟩ := HKi.out
            have hrs0 := rspell_any k t n q (wr.alloc (.cells #[.int .i64 k, .string t, .int .i64 n, .int .i64 q] 25)) HTi.out hn0 hn1
            clear hxm he hat hk0 hk1 hn0 hn1 hq0 hq1
            go_upto_region 25 with fail
            obtain ⟨w2, hw2e⟩ : ∃ w2, wr.alloc (.cells #[.int .i64 k, .string t, .int .i64 n, .int .i64 q] 25) = w2 := ⟨_, rfl⟩
            obtain ⟨G, hGe⟩ : ∃ G, wr.heap.size = G := ⟨_, rfl⟩
            simp only [hw2e, hGe] at hw2 HB2 l2 hrs0 ⊢
            clear hnb c0 c1 c2 c3 hw2e hGe hb hbw HBj
            have f2 := cells4L hw2
            by_cases hok : okT k (sb t) n
            · have HOK := Lib.hid hok
              have hrs : Calls Tryz.prog 12 #[.agg #[.int .i64 k, .string t, .int .i64 n, .int .i64 q]] w2 fun e w' => (∃ S, e = .returned (.tuple #[.string S, .bool true])) ∧ Below w2.heap.size w2 w' := hrs0.mono (by
                rintro e w' ⟨hb, (⟨_, rfl⟩ | ⟨hno, _⟩)⟩
                · exact ⟨⟨_, rfl⟩, hb⟩
                · exact absurd HOK.out hno)
              clear hrs0
              by_cases h0 : k = 0
              · have HO := Lib.hid (oneSp_no (x := (k, t, n, q)) (fun h => h.2 h0))
                have h0b : (k == 0) = true := by rw [beq_iff_eq]; exact h0
                clear hok h0
                go_wp2_with fail
                refine hrs.mono ?_
                rintro e w7 ⟨⟨S, rfl⟩, hb7⟩
                have HB7 := Lib.hid (HB2.out.trans (hb7.mono HB2.out.size))
                have hw7 := (hb7.block _ l2).trans hw2
                have f7 := cells4L hw7
                have l7 := lt_of_blk hw7
                clear hrs hb7 hw2 f2 l2 HB2
                go_wp2_with fail
                go_roundw
                case rel => exact ⟨j + 1, p, hjl, by omega, rfl, rfl, Lib.hid (by rw [HSt.out, HO.out, List.append_nil]; exact HP.out), HB7⟩
                case measure => simp [intOf]; omega
              · have HO := Lib.hid (oneSp_yes (x := (k, t, n, q)) hok h0)
                have h0b : (k == 0) = false := by rw [beq_eq_false_iff_ne]; exact h0
                have hki : ((k.toNat : Nat) : Int) = k := Int.toNat_of_nonneg hok.1
                have hgp := HAt.out _ HO.out
                have hpl : p < (spelled xs).length := (List.getElem?_eq_some_iff.1 hgp).1
                have hpl2 : p < l'.length := by
                  have := congrArg List.length HL2.out
                  rw [List.length_map, List.length_append] at this
                  simp only [List.length_cons, List.length_nil] at this
                  omega
                obtain ⟨kd, wd, nm, at_, he⟩ : ∃ kd wd nm at_, l'[p] = (kd, wd, nm, at_) := ⟨_, _, _, _, rfl⟩
                have hss : str3 l'[p] = (k.toNat, sb t, n) := by
                  have h1 := congrArg (fun l => l[p]?) HL2.out
                  simp only [List.getElem?_map, List.getElem?_append_left hpl, hgp, List.getElem?_eq_getElem hpl2, Option.map_some, Option.some.injEq] at h1
                  exact h1
                rw [he] at hss
                simp only [str3, Prod.mk.injEq] at hss
                obtain ⟨rfl, rfl, rfl⟩ := hss
                clear hok h0 hpl hgp
                go_wp2_with fail
                refine hrs.mono ?_
                rintro e w7 ⟨⟨S, rfl⟩, hb7⟩
                have HB7 := Lib.hid (HB2.out.trans (hb7.mono HB2.out.size))
                have hw7 := (hb7.block _ l2).trans hw2
                have f7 := cells4L hw7
                have l7 := lt_of_blk hw7
                obtain ⟨b3, o3, hA6, hb3, d0, d1, d2, d3⟩ := rdK_at (HZ6.out.below HB7.out (Nat.le_refl _)) hpl2 he
                subst hA6
                have hb3w := Nat.lt_of_lt_of_le hb3 HB7.out.size
                rw [hki] at d0
                rw [mk_sb] at d1
                have hp0 : (p : Int) < (m : Int) + 1 := by have := HLL.out; omega
                clear hrs hb7 hw2 f2 l2 HB2 he hki hw7
                go_wp2_with fail
                go_quiet (fail)
                have HBq := Lib.hid (HB7.out.trans (show Below w6.heap.size w7 (w7.drewN nq) from ⟨rfl, rfl, rfl, Nat.le_refl _, fun _ _ => rfl⟩))
                go_wp2_with fail
                go_roundw
                case rel => exact ⟨j + 1, p + 1, hjl, by omega, rfl, rfl, Lib.hid (by rw [HSt.out, HO.out, List.length_append, ← HP.out]; rfl), HBq⟩
                case measure => simp [intOf]; omega
            · have HOK := Lib.hid hok
              have hrs : Calls Tryz.prog 12 #[.agg #[.int .i64 k, .string t, .int .i64 n, .int .i64 q]] w2 fun e w' => (∃ S, e = .returned (.tuple #[.string S, .bool false])) ∧ Below w2.heap.size w2 w' := hrs0.mono (by
                rintro e w' ⟨hb, (⟨hno, _⟩ | ⟨_, S, rfl⟩)⟩
                · exact absurd hno HOK.out
                · exact ⟨⟨S, rfl⟩, hb⟩)
              have HO := Lib.hid (oneSp_no (x := (k, t, n, q)) (fun h => HOK.out h.1))
              clear hrs0 hok
              go_wp2_with fail
              refine hrs.mono ?_
              rintro e w7 ⟨⟨S, rfl⟩, hb7⟩
              have HB7 := Lib.hid (HB2.out.trans (hb7.mono HB2.out.size))
              clear hrs hb7 hw2 f2 l2 HB2
              go_wp2_with fail
              go_roundw
              case rel => exact ⟨j + 1, p, hjl, by omega, rfl, rfl, Lib.hid (by rw [HSt.out, HO.out, List.append_nil]; exact HP.out), HB7⟩
              case measure => simp [intOf]; omega
          · go_wp2_with fail
            go_ret
            exact ⟨rfl, HB6.out.trans (HBj.out.mono HB6.out.size)⟩
end Go.Proofs.YtakijeooaeflkaaGreatDoor.Fl
