/-
  The walk of SmallTexts: it returns true, and writes nothing that was there.
-/
import Derived.Test.YtdcehjdngjafoaaDoorTextC
namespace Go.Proofs.YtdcehjdngjafoaaDoor.Fl
open Go.RowKit

/-- what the walks read of the program's own variables -/
structure EnvT (w : World) : Prop where
  tab : Lib.TabIs Tryd.prog w "internal/strconv.uint64pow10" .u64 Lib.pow10Tab
  err : ∃ tp p, w.var? Tryd.prog "strconv.ErrRange" = some #[.iface tp p]
theorem var_lt {w : World} {n : String} {g : Nat} {cs : Array Value} (hg : Tryd.prog.globalNamed n = some g) (h : w.var? Tryd.prog n = some cs) : g < w.heap.size := by
  rcases Nat.lt_or_ge g w.heap.size with hlt | hge
  · exact hlt
  · exfalso
    unfold World.var? at h
    rw [hg] at h
    simp [Array.getElem?_eq_none hge] at h
theorem gPow : Tryd.prog.globalNamed "internal/strconv.uint64pow10" = some 1 := by kernel_rfl
theorem gErr : Tryd.prog.globalNamed "strconv.ErrRange" = some 3 := by kernel_rfl
theorem tab_below {w w' : World} (h : Lib.TabIs Tryd.prog w "internal/strconv.uint64pow10" .u64 Lib.pow10Tab) (hb : Below w.heap.size w w') : Lib.TabIs Tryd.prog w' "internal/strconv.uint64pow10" .u64 Lib.pow10Tab :=
  var?_below hb gPow (var_lt gPow h) h
theorem EnvT.below {w w' : World} (h : EnvT w) (hb : Below w.heap.size w w') : EnvT w' :=
  ⟨tab_below h.tab hb, by obtain ⟨tp, p, hv⟩ := h.err; exact ⟨tp, p, var?_below hb gErr (var_lt gErr hv) hv⟩⟩
theorem parse_env (s : ByteArray) (w : World) (hs : s.size ≤ 100) (h : EnvT w) :
    Calls Tryd.prog 32 #[.string s] w fun e w' => e = .returned (.tuple #[.int .i64 (pv (bs s)), .int .i64 (pe (bs s))]) ∧ Below w.heap.size w w' := by
  obtain ⟨tp, p, hv⟩ := h.err
  exact parse_any s w hs tp p hv

theorem ext_size (s : ByteArray) : (s.extract 0 100).size ≤ 100 := by simp; omega

set_option maxRecDepth 100000 in
set_option maxHeartbeats 2000000 in
theorem walk_SmallTexts (n : Int) (s : ByteArray) (w : World) (wn : (Lit.int .i64 n).wf = true) (ws : s.size ≤ maxLen) (henv : EnvT w) :
    Calls Tryd.prog 6 #[.int .i64 n, .string s] w fun e w' => e = .returned (.bool true) ∧ Below w.heap.size w w' := by
  have hn := bounds_i64 wn
  have n0 := hn.1
  have n1 := hn.2
  unfold maxLen at ws
  clear wn hn
  by_cases hi : InR n
  · have HI := Lib.hid hi
    clear hi
    go_enter Tryd.func6, Tryd.ntmps6
    go_wp2_with fail
    refine (awake_any _ henv.tab).mono ?_
    rintro e w1 ⟨rfl, hb0⟩
    have E1 := henv.below hb0
    go_wp2_with fail
    refine (text_any n _ n0 n1 E1.tab).mono ?_
    rintro e w2 ⟨rfl, hb1⟩
    have E2 := E1.below hb1
    go_wp2_with fail
    refine (parse_env _ _ (by rw [mk_size]; have := itoa_len n n0 n1; omega) E2).mono ?_
    rintro e w3 ⟨rfl, hb2⟩
    have E3 := E2.below hb2
    rw [bs_mk, (itoa_pv HI.out).1, (itoa_pv HI.out).2]
    go_wp2_with fail
    refine (rtext_any n _ n0 n1).mono ?_
    rintro e w4 ⟨rfl, hb3⟩
    have E4 := E3.below hb3
    go_wp2_with (go_at_call 18; (with_reducible refine (rnumber_yes _ _ HI.out).mono ?_); rintro e w' ⟨rfl, rfl⟩)
    · refine (parse_env _ _ (ext_size s) E4).mono ?_
      rintro e w5 ⟨rfl, hb4⟩
      go_wp2_with (go_at_call 34; (with_reducible refine (rparse_any _ _ (ext_size s)).mono ?_); rintro e w' ⟨rfl, rfl⟩)
      go_ret
      exact ⟨by simp, below_two (below_two (below_two (below_two hb0 hb1 rfl) hb2 rfl) hb3 rfl) hb4 rfl⟩
    · refine (parse_env _ _ (by omega) E4).mono ?_
      rintro e w5 ⟨rfl, hb4⟩
      go_wp2_with (go_at_call 34; (with_reducible refine (rparse_any _ _ (by omega)).mono ?_); rintro e w' ⟨rfl, rfl⟩)
      go_ret
      exact ⟨by simp, below_two (below_two (below_two (below_two hb0 hb1 rfl) hb2 rfl) hb3 rfl) hb4 rfl⟩
  · have HI := Lib.hid hi
    clear hi
    go_enter Tryd.func6, Tryd.ntmps6
    go_wp2_with fail
    refine (awake_any _ henv.tab).mono ?_
    rintro e w1 ⟨rfl, hb0⟩
    have E1 := henv.below hb0
    go_wp2_with fail
    refine (text_any n _ n0 n1 E1.tab).mono ?_
    rintro e w2 ⟨rfl, hb1⟩
    have E2 := E1.below hb1
    go_wp2_with fail
    refine (parse_env _ _ (by rw [mk_size]; have := itoa_len n n0 n1; omega) E2).mono ?_
    rintro e w3 ⟨rfl, hb2⟩
    have E3 := E2.below hb2
    rw [bs_mk, itoa_pe HI.out]
    go_wp2_with fail
    refine (rtext_any n _ n0 n1).mono ?_
    rintro e w4 ⟨rfl, hb3⟩
    have E4 := E3.below hb3
    go_wp2_with (go_at_call 18; (with_reducible refine (rnumber_no _ _ HI.out).mono ?_); rintro e w' ⟨rfl, rfl⟩)
    · refine (parse_env _ _ (ext_size s) E4).mono ?_
      rintro e w5 ⟨rfl, hb4⟩
      go_wp2_with (go_at_call 34; (with_reducible refine (rparse_any _ _ (ext_size s)).mono ?_); rintro e w' ⟨rfl, rfl⟩)
      go_ret
      exact ⟨by simp, below_two (below_two (below_two (below_two hb0 hb1 rfl) hb2 rfl) hb3 rfl) hb4 rfl⟩
    · refine (parse_env _ _ (by omega) E4).mono ?_
      rintro e w5 ⟨rfl, hb4⟩
      go_wp2_with (go_at_call 34; (with_reducible refine (rparse_any _ _ (by omega)).mono ?_); rintro e w' ⟨rfl, rfl⟩)
      go_ret
      exact ⟨by simp, below_two (below_two (below_two (below_two hb0 hb1 rfl) hb2 rfl) hb3 rfl) hb4 rfl⟩
end Go.Proofs.YtdcehjdngjafoaaDoor.Fl
