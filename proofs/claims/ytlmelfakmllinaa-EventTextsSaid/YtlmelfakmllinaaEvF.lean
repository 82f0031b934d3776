/-
  Events: what is shown; the same events; how many are the same at the beginning.
-/
import Derived.Test.YtlmelfakmllinaaEvE
import Derived.Deep.RegionHeld3
namespace Go.Proofs.Ytlmelfakmllinaa.Fl
open Go.RowKit

theorem wpList_append_e {w : World} {base c : Nat} {A : Option Addr} {xs news : List UInt8} {v : Value} {ops : Array Oper} {rest : List Oper} {o : Oper} {a : Act} {Q : Exit → Act → World → Prop} (hg : o.guard = none) (s x : Operand) (ho : o.op = .call { callee := .builtin .append, args := #[s, x], argTypes := #[32, 32] })
    (hs : a.eval s = v) (hx : a.eval x = .slice A news.length c) (hown : Own w base v xs) (hr : Rd w w.heap.size A (cb news)) (hA : A = none → news.length = 0) (hl : xs.length ≤ 1000000) (hl2 : news.length ≤ 1000000) (hb : base ≤ w.heap.size)
    (h : ∀ A' ts c' w', Hid (ts = xs ++ news) → Hid (Own w' base (.slice A' ts.length c') ts) → Hid (Below base w w' ∧ (∀ k, k < w.heap.size → some k ≠ v.ownBlock → w'.heap[k]? = w.heap[k]?)) → wpList Try.prog ops Q rest (a.put o.dst (.slice A' ts.length c')) w') : wpList Try.prog ops Q (o :: rest) a w := by
  obtain ⟨i0, hi, hz0, hz1, hz2⟩ := info_parts u8info
  refine wpList_append_rd (base := base) (size := 1) (bytes := 1) (n := xs.length) (m := news.length) (c := c) (v := v) (xs := cb xs) (news := cb news) hg s x ho Try.underlying32 hi hz0 hz1 hz2 rfl (by decide) hs hx hown hr (by rw [cb_len]; omega) hA (cb_oneCell news) (by unfold maxLen; omega) (by omega) hb ?_
  intro v' w' happ
  obtain ⟨A', c', rfl, _, _⟩ := happ.slice
  have e : xs.length + news.length = (xs ++ news).length := by simp
  have ho := happ.own
  rw [e, ← cb_append] at ho
  rw [e]
  exact h A' (xs ++ news) c' w' (Lib.hid rfl) (Lib.hid ho) (Lib.hid ⟨(Below.refl _ _).grown happ.grown hb (fun j hj => (World.ownsRow.lt hown j hj).1), happ.grown.block⟩)
theorem wpList_append_eg {w : World} {base c : Nat} {A : Option Addr} {xs news : List UInt8} {v : Value} {ops : Array Oper} {rest : List Oper} {o : Oper} {a : Act} {Q : Exit → Act → World → Prop} (hw : Region.wanted o (yielded ops a.tmps) = true) (s x : Operand) (ho : o.op = .call { callee := .builtin .append, args := #[s, x], argTypes := #[32, 32] })
    (hs : a.eval s = v) (hx : a.eval x = .slice A news.length c) (hown : Own w base v xs) (hr : Rd w w.heap.size A (cb news)) (hA : A = none → news.length = 0) (hl : xs.length ≤ 1000000) (hl2 : news.length ≤ 1000000) (hb : base ≤ w.heap.size)
    (h : ∀ A' ts c' w', Hid (ts = xs ++ news) → Hid (Own w' base (.slice A' ts.length c') ts) → Hid (Below base w w' ∧ (∀ k, k < w.heap.size → some k ≠ v.ownBlock → w'.heap[k]? = w.heap[k]?)) → wpList Try.prog ops Q rest (a.put o.dst (.slice A' ts.length c')) w') : wpList Try.prog ops Q (o :: rest) a w := by
  obtain ⟨i0, hi, hz0, hz1, hz2⟩ := info_parts u8info
  refine wpList_step fun K hK => ?_
  rw [if_pos hw]
  refine oper_append_rd (base := base) (size := 1) (bytes := 1) (n := xs.length) (m := news.length) (c := c) (v := v) (xs := cb xs) (news := cb news) s x ho Try.underlying32 hi hz0 hz1 hz2 rfl (by decide) hs hx hown hr (by rw [cb_len]; omega) hA (cb_oneCell news) (by unfold maxLen; omega) (by omega) hb ?_
  intro v' w' happ
  obtain ⟨A', c', rfl, _, _⟩ := happ.slice
  have e : xs.length + news.length = (xs ++ news).length := by simp
  have ho := happ.own
  rw [e, ← cb_append] at ho
  rw [e]
  exact hK _ _ (h A' (xs ++ news) c' w' (Lib.hid rfl) (Lib.hid ho) (Lib.hid ⟨(Below.refl _ _).grown happ.grown hb (fun j hj => (World.ownsRow.lt hown j hj).1), happ.grown.block⟩))
theorem ownE_rd {w : World} {base n c : Nat} {A : Option Addr} {xs : List UInt8} (h : Own w base (.slice A n c) xs) : Rd w w.heap.size A (cb xs) ∧ xs.length ≤ c ∧ (A = none → xs.length = 0) := by
  rcases h.2 with ⟨e1, e2⟩ | ⟨g, cap, cur, e1, hb, hg, hc, _, _, ht⟩
  · rw [List.eq_nil_of_length_eq_zero e2]; exact ⟨.inl rfl, Nat.zero_le _, fun _ => rfl⟩
  · injection e1 with e1 _ e3
    subst e1 e3
    refine ⟨.inr ⟨g, 0, rfl, lt_of_blk hg, fun j v hj => ?_⟩, hc, fun h => by cases h⟩
    have hjl : j < xs.length * 1 := by
      rcases Nat.lt_or_ge j (cb xs).length with h1 | h1
      · rw [cb_len] at h1; omega
      · rw [List.getElem?_eq_none h1] at hj; cases hj
    rw [Nat.zero_add, cell_of_row w g j _ _ _ hg, ← hj, ← ht, List.getElem?_take, if_pos (by omega)]
    simp
theorem OwnE_below {w w' : World} {base : Nat} {v : Value} {xs : List UInt8} (h : Own w base v xs) (hb : Below w.heap.size w w') : Own w' base v xs :=
  ⟨h.1, h.2.elim .inl fun ⟨g, cap, cur, hv, hbg, hg, r⟩ => .inr ⟨g, cap, cur, hv, hbg, (hb.block g (lt_of_blk hg)).trans hg, r⟩⟩
theorem shown_snoc (l : List EE) (x : EE) : shownE (evs (l ++ [x])) = shownE (evs l) ++ (if x.1.kd = 1 then x.1.bs else []) := by
  show shownE (List.map (fun x => x.1) (l ++ [x])) = _
  rw [List.map_append, shownE_app]
  simp [shownE]
def ShownPost (l : List UInt8) (w : World) (e : Ending) (w' : World) : Prop :=
  ∃ A c, e = .returned (.slice A l.length c) ∧ Own w' w.heap.size (.slice A l.length c) l ∧ Below w.heap.size w w'
set_option maxRecDepth 100000 in
set_option maxHeartbeats 4000000 in
theorem shown_anyE (xs : List EE) (A : Option Addr) (c B : Nat) (w : World) (h : EvsAt w B A xs) (hB : B ≤ w.heap.size) (hl : xs.length ≤ 40) :
    Calls Try.prog 14 #[.slice A xs.length c] w (ShownPost (shownE (evs xs)) w) := by
  have H := Lib.hid h
  clear h
  go_enter Try.func14, Try.ntmps14
  go_wp2_with fail
  go_loopw [3, 8] (fun s u wr => ∃ (k : Nat) (ts : List UInt8) (A2 : Option Addr) (c2 : Nat), k ≤ xs.length ∧ s = .slice A2 ts.length c2 ∧ u = .int .i64 (k : Int) ∧ Hid (ts = shownE (evs (xs.take k))) ∧ Hid (Own wr w.heap.size (.slice A2 ts.length c2) ts) ∧ Hid (Below w.heap.size w wr)) (fun _ u _ => xs.length - (intOf u).toNat)
  case atStart => exact ⟨0, [], none, 0, Nat.zero_le _, rfl, rfl, Lib.hid rfl, Lib.hid (World.ownsRow_nil _ _ _ _), Lib.hid (Below.refl _ _)⟩
  case round =>
    obtain ⟨k, ts, A2, c2, hk, rfl, rfl, HTs, HI, HO⟩ := hrel
    by_cases hlt : k < xs.length
    case neg =>
      have hq : ¬ ((k : Int) < (xs.length : Int)) := by omega
      have HT : Hid (ts = shownE (evs xs)) := Lib.hid (by have := HTs.out; rwa [List.take_of_length_le (by omega)] at this)
      go_wp2_with fail
      go_ret
      exact ⟨A2, c2, by rw [← HT.out]; rfl, by rw [← HT.out]; exact HI.out, HO.out⟩
    have H2 := H.out.below HO.out hB
    obtain ⟨g, off, rfl, hg, c0, c1, c2'⟩ := ee_at H2.rd hlt
    obtain ⟨r1, r2, r3⟩ := H2.bs _ (List.getElem_mem hlt)
    have HS := Lib.hid (H2.sm _ (List.getElem_mem hlt))
    have hq : (k : Int) < (xs.length : Int) := by omega
    have hsz := HO.out.size
    have hlg : g < wr.heap.size := by omega
    have HT : Hid (xs.take (k + 1) = xs.take k ++ [xs[k]]) := Lib.hid (List.take_succ_eq_append_getElem hlt)
    have hln : ts.length ≤ 40 * 200 := by
      have h1 := shownE_len (evs_small (xs := xs.take k) fun x hx => H2.sm x (List.mem_of_mem_take hx))
      have h2 : (evs (xs.take k)).length ≤ 40 := by rw [List.length_map, List.length_take]; omega
      have h3 := Nat.mul_le_mul_right 200 h2
      rw [HTs.out]
      omega
    have hw2 := heap_alloc_new wr (.cells #[.int .i64 xs[k].1.kd, .slice xs[k].2.1 xs[k].1.bs.length xs[k].2.2, .string ⟨xs[k].1.nm.toArray⟩] 45)
    have hb2 : Below wr.heap.size wr (wr.alloc (.cells #[.int .i64 xs[k].1.kd, .slice xs[k].2.1 xs[k].1.bs.length xs[k].2.2, .string ⟨xs[k].1.nm.toArray⟩] 45)) := (Below.refl _ _).alloc (Nat.le_refl _) _
    clear H2
    generalize xs[k] = x at *
    have HI2 := Lib.hid (OwnE_below HI.out hb2)
    have HO2 := Lib.hid (HO.out.trans (hb2.mono hsz))
    have hr2 := (r1.below (hb2.mono (Nat.le_trans hB hsz)) (Nat.le_refl _)).more (Nat.le_trans hB HO2.out.size)
    go_upto_region 5 with fail
    generalize wr.alloc (.cells #[.int .i64 x.1.kd, .slice x.2.1 x.1.bs.length x.2.2, .string ⟨x.1.nm.toArray⟩] 45) = w2 at *
    obtain ⟨f0, f1, f2, _⟩ := cells3E hw2
    have hsb : x.1.bs.length ≤ 1000000 := by have := HS.out.1; omega
    have hos := HO2.out.size
    clear hw2 hb2 c0 c1 c2' r1 r2 HI
    by_cases h1 : x.1.kd = 1
    · go_wp2_with (at_builtin; refine wpList_append_e (base := w.heap.size) (v := .slice A2 ts.length c2) (xs := ts) (news := x.1.bs) rfl _ _ rfl rfl rfl HI2.out hr2 (fun h => by rw [(r3 h).1]; rfl) (by omega) hsb hos ?_; intro A4 t4 c4 w4 HT4 HO4 HB4)
      go_roundw
      case rel => exact ⟨k + 1, t4, A4, c4, by omega, rfl, by simp, Lib.hid (by rw [HT4.out, HTs.out, HT.out, shown_snoc, if_pos h1]), HO4, Lib.hid (HO2.out.trans HB4.out.1)⟩
      case measure => simp [intOf]; omega
    · go_wp2_with fail
      go_roundw
      case rel => exact ⟨k + 1, ts, A2, c2, by omega, rfl, by simp, Lib.hid (by rw [HTs.out, HT.out, shown_snoc, if_neg h1, List.append_nil]), HI2, HO2⟩
      case measure => simp [intOf]; omega
end Go.Proofs.Ytlmelfakmllinaa.Fl
