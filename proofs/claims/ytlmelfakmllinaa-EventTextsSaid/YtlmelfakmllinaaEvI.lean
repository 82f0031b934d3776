/-
  Events: what the law makes of those that came in: the program's own, cut.
-/
import Derived.Test.YtlmelfakmllinaaEvH
import Derived.Deep.RegionHeld3
namespace Go.Proofs.Ytlmelfakmllinaa.Fl
open Go.RowKit

theorem evinfo : (Try.prog.info? 45).map (fun i => (i.zero, i.size, i.bytes)) = some (some (.agg #[.int .i64 0, .slice none 0 0, .string ⟨#[]⟩]), 3, 48) := by kernel_rfl
def OwnV (w : World) (base : Nat) (v : Value) (l : List EE) : Prop := w.ownsRow base 45 3 v l.length (ee_ l)
theorem OwnV.below {w w' : World} {base : Nat} {v : Value} {xs : List EE} (h : OwnV w base v xs) (hb : Below w.heap.size w w') : OwnV w' base v xs :=
  ⟨h.1, h.2.elim .inl fun ⟨g, cap, cur, hv, hbg, hg, r⟩ => .inr ⟨g, cap, cur, hv, hbg, (hb.block g (lt_of_blk hg)).trans hg, r⟩⟩
theorem ownE_slice {w : World} {base : Nat} {v : Value} {xs : List UInt8} (h : Own w base v xs) : ∃ A c, v = .slice A xs.length c := by
  rcases h.2 with ⟨e1, e2⟩ | ⟨g, cap, cur, e1, _⟩
  · exact ⟨none, 0, by rw [e1, e2]⟩
  · exact ⟨_, _, e1⟩
theorem Own.wideE {w : World} {base base' : Nat} {v : Value} {xs : List UInt8} (h : Own w base v xs) (hb : base' ≤ base) : Own w base' v xs :=
  ⟨h.1, h.2.elim .inl fun ⟨g, cap, cur, hv, hbg, hg, r⟩ => .inr ⟨g, cap, cur, hv, Nat.le_trans hb hbg, hg, r⟩⟩
/-- each event's bytes are a row of the call's own -/
def OwnBs (w : World) (base : Nat) (l : List EE) : Prop := ∀ x ∈ l, Own w base (.slice x.2.1 x.1.bs.length x.2.2) x.1.bs
theorem OwnBs.below {w w' : World} {base : Nat} {l : List EE} (h : OwnBs w base l) (hb : Below w.heap.size w w') : OwnBs w' base l := fun x hx => OwnE_below (h x hx) hb
theorem OwnBs.snoc {w : World} {base : Nat} {l : List EE} {x : EE} (h : OwnBs w base l) (hx : Own w base (.slice x.2.1 x.1.bs.length x.2.2) x.1.bs) : OwnBs w base (l ++ [x]) := fun y hy => by
  rcases List.mem_append.1 hy with hy | hy
  · exact h y hy
  · obtain rfl := List.mem_singleton.1 hy
    exact hx
theorem ownV_ne {w : World} {base : Nat} {v : Value} {xs : List EE} (h : OwnV w base v xs) {k : Nat} {cs : Array Value} {T : TypeId} {fr : Nat × Nat} (hk : w.heap[k]? = some (.cells cs T fr)) (hT : T ≠ 45) : some k ≠ v.ownBlock := fun e => by
  rcases h.2 with ⟨hv, _⟩ | ⟨g, cap, cur, hv, _, hg, _⟩
  · rw [hv] at e; cases e
  · rw [hv] at e
    injection e with e
    subst e
    rw [hg] at hk
    injection hk with hk
    injection hk with _ hk
    exact hT hk.symm
theorem OwnBs.grown {w w' : World} {base base' : Nat} {l es : List EE} {v : Value} (h : OwnBs w base l) (hv : OwnV w base' v es) (hk : ∀ k, k < w.heap.size → some k ≠ v.ownBlock → w'.heap[k]? = w.heap[k]?) : OwnBs w' base l := fun x hx => by
  have h1 := h x hx
  refine ⟨h1.1, h1.2.elim .inl fun ⟨g, cap, cur, e, hbg, hg, r⟩ => .inr ⟨g, cap, cur, e, hbg, (hk g (lt_of_blk hg) (ownV_ne hv hg (by decide))).trans hg, r⟩⟩
theorem ownV_rd {w : World} {base n c : Nat} {A : Option Addr} {xs : List EE} (h : OwnV w base (.slice A n c) xs) : Rd w w.heap.size A (ee_ xs) ∧ xs.length ≤ c ∧ (A = none → xs.length = 0) := by
  rcases h.2 with ⟨e1, e2⟩ | ⟨g, cap, cur, e1, hb, hg, hc, _, _, ht⟩
  · rw [List.eq_nil_of_length_eq_zero e2]; exact ⟨.inl rfl, Nat.zero_le _, fun _ => rfl⟩
  · injection e1 with e1 _ e3
    subst e1 e3
    refine ⟨.inr ⟨g, 0, rfl, lt_of_blk hg, fun j v hj => ?_⟩, hc, fun h => by cases h⟩
    have hjl : j < xs.length * 3 := by
      rcases Nat.lt_or_ge j (ee_ xs).length with h1 | h1
      · rw [ee_len] at h1; omega
      · rw [List.getElem?_eq_none h1] at hj; cases hj
    rw [Nat.zero_add, cell_of_row w g j _ _ _ hg, ← hj, ← ht, List.getElem?_take, if_pos (by omega)]
    simp
theorem ownBs_evBs {w : World} {base : Nat} {l : List EE} (h : OwnBs w base l) : EvBs w w.heap.size l := fun x hx => by
  have h1 := h x hx
  obtain ⟨r1, r2, r3⟩ := ownE_rd h1
  refine ⟨r1, r2, fun e => ?_⟩
  rcases h1.2 with ⟨e1, e2⟩ | ⟨g, cap, cur, e1, _⟩
  · injection e1 with _ e3 e4
    exact ⟨List.eq_nil_of_length_eq_zero e3, e4⟩
  · injection e1 with e1
    rw [e] at e1
    cases e1
theorem evsAt_own {w : World} {base n c : Nat} {A : Option Addr} {es : List EE} (h : OwnV w base (.slice A n c) es) (hb : OwnBs w base es) (hs : ∀ x ∈ es, smallE x.1) : EvsAt w w.heap.size A es :=
  ⟨(ownV_rd h).1, ownBs_evBs hb, hs⟩
theorem ee_one1 (w : World) (x : EE) : Rd (w.alloc (.cells (ee3 x).toArray 45)) (w.alloc (.cells (ee3 x).toArray 45)).heap.size (some ⟨w.heap.size, 0, none⟩) (ee_ [x]) := by
  have hg := heap_alloc_new w (.cells (ee3 x).toArray 45)
  refine .inr ⟨w.heap.size, 0, rfl, lt_of_blk hg, fun j v hj => ?_⟩
  have e : ee_ [x] = ee3 x := by simp [ee_]
  rw [e] at hj
  rw [Nat.zero_add]
  exact (cell_of_row _ _ _ _ _ _ hg).trans ((List.getElem?_toArray ..).trans hj)
section
variable {w : World} {base c : Nat} {A : Option Addr} {xs news : List EE} {v : Value} {ops : Array Oper} {o : Oper} {a : Act}
theorem step_append_ev {K : Act → World → Prop} {Q : Exit → Act → World → Prop} {E : Prop} (hg : o.guard = none) (s x : Operand) (ho : o.op = .call { callee := .builtin .append, args := #[s, x], argTypes := #[24, 24] })
    (hs : a.eval s = v) (hx : a.eval x = .slice A news.length c) (hown : OwnV w base v xs) (hr : Rd w w.heap.size A (ee_ news)) (hA : A = none → news.length = 0) (hl : xs.length ≤ 1000000) (hl2 : news.length ≤ 1000000) (hb : base ≤ w.heap.size)
    (h : ∀ A' ts c' w', Hid (ts = xs ++ news) → Hid (OwnV w' base (.slice A' ts.length c') ts) → Hid (Below base w w' ∧ (∀ k, k < w.heap.size → some k ≠ v.ownBlock → w'.heap[k]? = w.heap[k]?)) → K (a.put o.dst (.slice A' ts.length c')) w') :
    if Region.wanted o (yielded ops a.tmps) = true then Oper.wp Try.prog o a w K Q else E := by
  obtain ⟨i0, hi, hz0, hz1, hz2⟩ := info_parts evinfo
  refine step_append_rd (base := base) (size := 3) (bytes := 48) (n := xs.length) (m := news.length) (c := c) (v := v) (xs := ee_ xs) (news := ee_ news) hg s x ho Try.underlying24 hi hz0 hz1 hz2 rfl (by decide) hs hx hown hr (ee_len _) hA (ee_one _) (by unfold maxLen; omega) (by omega) hb ?_
  intro v' w' happ
  obtain ⟨A', c', rfl, _, _⟩ := happ.slice
  have e : xs.length + news.length = (xs ++ news).length := by simp
  have ho := happ.own
  rw [e, show ee_ xs ++ ee_ news = ee_ (xs ++ news) from (ee_app _ _).symm] at ho
  rw [e]
  exact h A' (xs ++ news) c' w' (Lib.hid rfl) (Lib.hid ho) (Lib.hid ⟨(Below.refl _ _).grown happ.grown hb (fun j hj => (World.ownsRow.lt hown j hj).1), happ.grown.block⟩)
theorem wpList_append_ev {rest : List Oper} {Q : Exit → Act → World → Prop} (hg : o.guard = none) (s x : Operand) (ho : o.op = .call { callee := .builtin .append, args := #[s, x], argTypes := #[24, 24] })
    (hs : a.eval s = v) (hx : a.eval x = .slice A news.length c) (hown : OwnV w base v xs) (hr : Rd w w.heap.size A (ee_ news)) (hA : A = none → news.length = 0) (hl : xs.length ≤ 1000000) (hl2 : news.length ≤ 1000000) (hb : base ≤ w.heap.size)
    (h : ∀ A' ts c' w', Hid (ts = xs ++ news) → Hid (OwnV w' base (.slice A' ts.length c') ts) → Hid (Below base w w' ∧ (∀ k, k < w.heap.size → some k ≠ v.ownBlock → w'.heap[k]? = w.heap[k]?)) → wpList Try.prog ops Q rest (a.put o.dst (.slice A' ts.length c')) w') : wpList Try.prog ops Q (o :: rest) a w := by
  obtain ⟨i0, hi, hz0, hz1, hz2⟩ := info_parts evinfo
  refine wpList_append_rd (base := base) (size := 3) (bytes := 48) (n := xs.length) (m := news.length) (c := c) (v := v) (xs := ee_ xs) (news := ee_ news) hg s x ho Try.underlying24 hi hz0 hz1 hz2 rfl (by decide) hs hx hown hr (ee_len _) hA (ee_one _) (by unfold maxLen; omega) (by omega) hb ?_
  intro v' w' happ
  obtain ⟨A', c', rfl, _, _⟩ := happ.slice
  have e : xs.length + news.length = (xs ++ news).length := by simp
  have ho := happ.own
  rw [e, show ee_ xs ++ ee_ news = ee_ (xs ++ news) from (ee_app _ _).symm] at ho
  rw [e]
  exact h A' (xs ++ news) c' w' (Lib.hid rfl) (Lib.hid ho) (Lib.hid ⟨(Below.refl _ _).grown happ.grown hb (fun j hj => (World.ownsRow.lt hown j hj).1), happ.grown.block⟩)
end
theorem ext_take (l : List UInt8) (n : Nat) : (⟨l.toArray⟩ : ByteArray).extract 0 n = ⟨(l.take n).toArray⟩ := by
  have h := sb_extract ⟨l.toArray⟩ 0 n
  rw [List.drop_zero] at h
  have e : ∀ s : ByteArray, s = ⟨(sb s).toArray⟩ := fun s => by cases s; simp [sb]
  rw [e (ByteArray.extract _ 0 n), h]
theorem evs_snoc (l : List EE) (x : EE) : evs (l ++ [x]) = evs l ++ [x.1] := by simp [evs]
/-- what own answers -/
def OwnPostE (l : List Ev) (w : World) (e : Ending) (w' : World) : Prop :=
  ∃ es A c, e = .returned (.slice A es.length c) ∧ evs es = ownE l ∧ OwnV w' w.heap.size (.slice A es.length c) es ∧ OwnBs w' w.heap.size es ∧ Below w.heap.size w w'
set_option maxRecDepth 100000 in
set_option maxHeartbeats 16000000 in
theorem own_anyE (l : List EE) (A : Option Addr) (c B : Nat) (w : World) (hr : Rd w B A (ee_ l)) (hbs : EvBs w B l) (hB : B ≤ w.heap.size) :
    Calls Try.prog 7 #[.slice A l.length c] w (OwnPostE (evs l) w) := by
  have H := Lib.hid hr
  have H2 := Lib.hid hbs
  clear hr hbs
  go_enter Try.func7, Try.ntmps7
  go_wp2_with fail
  go_loopw [3, 4] (fun s u wr => ∃ (i : Nat) (es : List EE) (A2 : Option Addr) (c2 : Nat), i ≤ l.length ∧ i ≤ 20 ∧ s = .slice A2 es.length c2 ∧ u = .int .i64 (i : Int) ∧ Hid (evs es = (evs (l.take i)).map clipE) ∧ Hid (OwnV wr w.heap.size (.slice A2 es.length c2) es) ∧ Hid (OwnBs wr w.heap.size es) ∧ Hid (Below w.heap.size w wr)) (fun _ u _ => l.length - (intOf u).toNat)
  case atStart => exact ⟨0, [], none, 0, Nat.zero_le _, Nat.zero_le _, rfl, rfl, Lib.hid rfl, Lib.hid (World.ownsRow_nil _ _ _ _), Lib.hid (fun x hx => by cases hx), Lib.hid (Below.refl _ _)⟩
  case round =>
    obtain ⟨i, es, A2, c2, hi, hi2, rfl, rfl, HM, HV, HBs, HO⟩ := hrel
    have hsz := HO.out.size
    by_cases hlt : i < l.length
    case neg =>
      have hq : ¬ ((i : Int) < (l.length : Int)) := by omega
      have HE := Lib.hid (show evs es = ownE (evs l) by
        have e : i = l.length := by omega
        subst e
        rw [HM.out, ownE, List.take_length, List.take_of_length_le (by simp only [List.length_map]; omega)])
      go_wp2_with fail
      go_ret
      exact ⟨es, A2, c2, rfl, HE.out, HV.out, HBs.out, HO.out⟩
    have hq : (i : Int) < (l.length : Int) := by omega
    by_cases hlt2 : i < 20
    case neg =>
      have hq2 : ¬ ((i : Int) < 20) := by omega
      have HE := Lib.hid (show evs es = ownE (evs l) by
        have e : i = 20 := by omega
        subst e
        rw [HM.out, ownE, evs, List.map_take])
      go_wp2_with fail
      go_ret
      exact ⟨es, A2, c2, rfl, HE.out, HV.out, HBs.out, HO.out⟩
    have hq2 : (i : Int) < 20 := by omega
    obtain ⟨g, off, rfl, hg, c0, c1, c2'⟩ := ee_at (H.out.below HO.out hB) hlt
    obtain ⟨r1, r2, r3⟩ := (H2.out.below HO.out hB) _ (List.getElem_mem hlt)
    have hlg : g < wr.heap.size := by omega
    have HT : Hid (l.take (i + 1) = l.take i ++ [l[i]]) := Lib.hid (List.take_succ_eq_append_getElem hlt)
    have hel : es.length ≤ 20 := by
      have := congrArg List.length HM.out
      simp only [evs, List.length_map, List.length_take] at this
      omega
    generalize l[i] = x at *
    obtain ⟨X, hX⟩ : ∃ X, wr.heap.size = X := ⟨_, rfl⟩
    obtain ⟨W2, hW2⟩ : ∃ W, wr.alloc (.cells #[.int .i64 x.1.kd, .slice x.2.1 x.1.bs.length x.2.2, .string ⟨x.1.nm.toArray⟩] 34) = W := ⟨_, rfl⟩
    have hb2 : Below wr.heap.size wr W2 := by rw [← hW2]; exact (Below.refl _ _).alloc (Nat.le_refl _) _
    have hw2 : W2.heap[X]? = some (.cells #[.int .i64 x.1.kd, .slice x.2.1 x.1.bs.length x.2.2, .string ⟨x.1.nm.toArray⟩] 34 (0, 0)) := by rw [← hW2, ← hX]; exact heap_alloc_new _ _
    go_upto_region 6 with fail
    try simp only [hW2, hX]
    obtain ⟨f0, f1, f2, f3⟩ := cells3E hw2
    have hXl := lt_of_blk hw2
    have hz1c : x.1.bs.length ≤ x.2.2 := r2
    rcases Nat.lt_or_ge 200 x.1.bs.length with hz1 | hz1 <;> rcases Nat.lt_or_ge 200 x.1.nm.length with hz2 | hz2
    · have hz1' : (200 : Int) < (x.1.bs.length : Int) := by omega
      have hz2' : (200 : Int) < (x.1.nm.length : Int) := by omega
      have hz3 : (200 : Int) ≤ (x.2.2 : Int) := by omega
      go_upto_region 10 with fail
      obtain ⟨x2, hx2⟩ : ∃ y, clipE x.1 = y := ⟨_, rfl⟩
      have HX2 := Lib.hid hx2
      have hk2 : x.1.kd = x2.kd := by rw [← hx2]; rfl
      have hb2' : x2.bs = x.1.bs.take 200 := by rw [← hx2]; rfl
      have hn2' : x2.nm = x.1.nm.take 200 := by rw [← hx2]; rfl
      have hl2 : x2.bs.length = min 200 x.1.bs.length := by rw [hb2', List.length_take]
      have hl3 : x2.bs.length ≤ 200 := by omega
      have hr3 : ∀ W3, Below wr.heap.size wr W3 → Rd W3 B x.2.1 (cb x2.bs) := fun W3 h => by rw [hb2', ← cb_take]; exact (r1.below h (Nat.le_trans hB hsz)).take_ 200
      have hn3 : x.2.1 = none → x2.bs = [] ∧ x.2.2 = 0 := fun h => ⟨by rw [hb2', (r3 h).1]; rfl, (r3 h).2⟩
      have e0 : (.int .i64 x.1.kd : Value) = .int .i64 x2.kd := by rw [hk2]
      have e1 : (Value.slice x.2.1 200 x.2.2) = .slice x.2.1 x2.bs.length x.2.2 := by rw [show x2.bs.length = 200 by omega]
      have e2 : (Value.string ((⟨x.1.nm.toArray⟩ : ByteArray).extract 0 200)) = .string ⟨x2.nm.toArray⟩ := by rw [hn2']; exact congrArg Value.string (ext_take _ _)
      obtain ⟨W3, hW3⟩ : ∃ W, ((W2.setCell ⟨X, 1, none⟩ (.slice x.2.1 200 x.2.2)).setCell ⟨X, 2, none⟩ (.string ((⟨x.1.nm.toArray⟩ : ByteArray).extract 0 200))) = W := ⟨_, rfl⟩
      have hw3 : W3.heap[X]? = some (.cells #[.int .i64 x2.kd, .slice x.2.1 x2.bs.length x.2.2, .string ⟨x2.nm.toArray⟩] 34 (0, 0)) := by rw [← hW3, ← e0, ← e1, ← e2]; exact (heap_setCell_same _ X 2 _ _ (.string ((⟨x.1.nm.toArray⟩ : ByteArray).extract 0 200)) (heap_setCell_same _ X 1 _ _ (.slice x.2.1 200 x.2.2) hw2))
      have HB3 := Lib.hid (show Below wr.heap.size wr W3 from by rw [← hW3]; exact ((hb2.setCell (p := ⟨X, 1, none⟩) (Nat.le_of_eq hX) _).setCell (p := ⟨X, 2, none⟩) (Nat.le_of_eq hX) _))
      replace hr3 := hr3 W3 HB3.out
      rw [hW3]
      clear hl2 hW3 hW2 e0 e1 e2 hw2 hb2 f0 f1 f2 f3 hx2 hk2 hb2' hn2' c0 c1 c2' r1 r3
      have hb3 := HB3.out
      have HSx : Hid (∀ w' : World, Below W3.heap.size W3 w' → w'.cell? ⟨X, 0, none⟩ = some (.int .i64 x2.kd) ∧ w'.cell? ⟨X, 1, none⟩ = some (.slice x.2.1 x2.bs.length x.2.2) ∧ w'.cell? ⟨X, 2, none⟩ = some (.string ⟨x2.nm.toArray⟩)) := Lib.hid (fun w' h => by
        obtain ⟨a0, a1, a2, _⟩ := cells3E ((h.block _ (lt_of_blk hw3)).trans hw3)
        exact ⟨a0, a1, a2⟩)
      have HB9 := Lib.hid (HO.out.trans (hb3.mono hsz))
      have hcp := copy_any x2.bs x.2.2 B x.2.1 W3.drew (hr3.below (Below.refl _ _).drew (Nat.le_trans hB HB9.out.size)) (Nat.le_trans hB HB9.out.size) (by omega) hn3
      have HOV := Lib.hid (HV.out.below hb3)
      have HOB := Lib.hid (HBs.out.below hb3)
      have HX3 := Lib.hid hw3
      clear hw3 hr3
      refine wp_region_noPanic ?_
      refine wp_region_held_drew (S := (fun w' : World => w'.cell? ⟨X, 0, none⟩ = some (.int .i64 x2.kd) ∧ w'.cell? ⟨X, 1, none⟩ = some (.slice x.2.1 x2.bs.length x.2.2) ∧ w'.cell? ⟨X, 2, none⟩ = some (.string ⟨x2.nm.toArray⟩))) (by kernel_rfl) (HSx.out _ (Below.refl _ _).drew) (fun hHeld => ?_)
      refine wpAnyH_take (i := 0) (v := ?_) (by first | (simp only [List.getElem?_toArray, List.getElem?_cons_succ, List.getElem?_cons_zero]; rfl) | rfl) (by kernel_rfl) (by kernel_rfl) (by kernel_rfl) (fun _ _ _ h => h) (Or.inl ⟨by rfl, ?_⟩) (by assumption) ?_
      rotate_left 1
      · (intro w' hSw; (try dsimp only at hSw); go_simp; (try with_reducible rfl))
      try simp only [Act.put, List.setIfInBounds_toArray, List.set_cons_zero, List.set_cons_succ]
      refine wpAnyH_take (i := 1) (v := ?_) (by first | (simp only [List.getElem?_toArray, List.getElem?_cons_succ, List.getElem?_cons_zero]; rfl) | rfl) (by kernel_rfl) (by kernel_rfl) (by kernel_rfl) (fun _ _ _ h => h) (Or.inl ⟨by rfl, ?_⟩) (by assumption) ?_
      rotate_left 1
      · (intro w' hSw; (try dsimp only at hSw); go_simp; (try with_reducible rfl))
      try simp only [Act.put, List.setIfInBounds_toArray, List.set_cons_zero, List.set_cons_succ]
      refine wpAnyH_take (i := 2) (v := ?_) (by first | (simp only [List.getElem?_toArray, List.getElem?_cons_succ, List.getElem?_cons_zero]; rfl) | rfl) (by kernel_rfl) (by kernel_rfl) (by kernel_rfl) (fun _ _ _ h => h) (Or.inl ⟨by rfl, ?_⟩) (by assumption) ?_
      rotate_left 1
      · (intro w' hSw; (try dsimp only at hSw); go_simp; (try with_reducible rfl))
      try simp only [Act.put, List.setIfInBounds_toArray, List.set_cons_zero, List.set_cons_succ]
      refine wpAnyH_take (i := 3) (v := ?_) (by first | (simp only [List.getElem?_toArray, List.getElem?_cons_succ, List.getElem?_cons_zero]; rfl) | rfl) (by kernel_rfl) (by kernel_rfl) (by kernel_rfl) (fun _ _ _ h => h) (Or.inl ⟨by rfl, ?_⟩) (by assumption) ?_
      rotate_left 1
      · (intro w' hSw; (try dsimp only at hSw); go_simp; (try with_reducible rfl))
      try simp only [Act.put, List.setIfInBounds_toArray, List.set_cons_zero, List.set_cons_succ]
      refine wpAnyH_take (i := 4) (v := ?_) (by first | (simp only [List.getElem?_toArray, List.getElem?_cons_succ, List.getElem?_cons_zero]; rfl) | rfl) (by kernel_rfl) (by kernel_rfl) (by kernel_rfl) (fun _ _ _ h => h) (Or.inl ⟨by rfl, ?_⟩) (by assumption) ?_
      rotate_left 1
      · (intro w' hSw; (try dsimp only at hSw); go_simp; (try with_reducible rfl))
      try simp only [Act.put, List.setIfInBounds_toArray, List.set_cons_zero, List.set_cons_succ]
      refine wpAnyH_take (i := 6) (v := ?_) (by first | (simp only [List.getElem?_toArray, List.getElem?_cons_succ, List.getElem?_cons_zero]; rfl) | rfl) (by kernel_rfl) (by kernel_rfl) (by kernel_rfl) (fun _ _ _ h => h) (Or.inl ⟨by rfl, ?_⟩) (by assumption) ?_
      rotate_left 1
      · (intro w' hSw; (try dsimp only at hSw); go_simp; (try with_reducible rfl))
      try simp only [Act.put, List.setIfInBounds_toArray, List.set_cons_zero, List.set_cons_succ]
      refine wpAnyH_take (i := 7) (v := ?_) (by first | (simp only [List.getElem?_toArray, List.getElem?_cons_succ, List.getElem?_cons_zero]; rfl) | rfl) (by kernel_rfl) (by kernel_rfl) (by kernel_rfl) (fun _ _ _ h => h) (Or.inl ⟨by rfl, ?_⟩) (by assumption) ?_
      rotate_left 1
      · (intro w' hSw; (try dsimp only at hSw); go_simp; (try with_reducible rfl))
      try simp only [Act.put, List.setIfInBounds_toArray, List.set_cons_zero, List.set_cons_succ]
      refine wpAnyH_ready (rs := [5]) (by kernel_rfl) (by simp) ?_
      refine AllReadyH.cons (by first | (simp only [List.getElem?_toArray, List.getElem?_cons_succ, List.getElem?_cons_zero]; rfl) | rfl) (fun K hK => ?_) AllReadyH.nil
      go_simp
      refine hcp.mono ?_
      rintro e W4 ⟨v4, rfl, ho4, hb4⟩
      dsimp only
      obtain ⟨A4, c4, rfl⟩ := ownE_slice ho4
      have HB4 := Lib.hid ((Below.refl W3.heap.size W3).drew.trans hb4)
      have HO4 := Lib.hid (show Own W4 W3.heap.size _ _ from ho4)
      clear hcp ho4 hb4
      refine hK.out _ _ (HSx.out _ HB4.out) (fun hHeld => ?_)
      clear hK K
      try simp only [Act.put, List.setIfInBounds_toArray, List.set_cons_zero, List.set_cons_succ]
      refine wpAnyH_take (i := 8) (v := ?_) (by first | (simp only [List.getElem?_toArray, List.getElem?_cons_succ, List.getElem?_cons_zero]; rfl) | rfl) (by kernel_rfl) (by kernel_rfl) (by kernel_rfl) (fun _ _ _ h => h) (Or.inl ⟨by rfl, ?_⟩) (by assumption) ?_
      rotate_left 1
      · (intro w' hSw; (try dsimp only at hSw); go_simp; (try with_reducible rfl))
      try simp only [Act.put, List.setIfInBounds_toArray, List.set_cons_zero, List.set_cons_succ]
      refine wpAnyH_ready (rs := [9]) (by kernel_rfl) (by simp) ?_
      refine AllReadyH.cons (by first | (simp only [List.getElem?_toArray, List.getElem?_cons_succ, List.getElem?_cons_zero]; rfl) | rfl) (fun K hK => ?_) AllReadyH.nil
      go_simp
      obtain ⟨W5, hW5⟩ : ∃ W, W4.alloc (.cells (ee3 (x2, (A4, c4))).toArray 45) = W := ⟨_, rfl⟩
      have hb5 : Below W4.heap.size W4 W5 := by rw [← hW5]; exact (Below.refl _ _).alloc (Nat.le_refl _) _
      have hne : Rd W5 W5.heap.size (some ⟨W4.heap.size, 0, none⟩) (ee_ [(x2, (A4, c4))]) := by rw [← hW5]; exact ee_one1 W4 (x2, (A4, c4))
      show K _ (W4.alloc (.cells (ee3 (x2, (A4, c4))).toArray 45))
      rw [hW5]
      clear hW5
      have HB5 := Lib.hid (HB4.out.trans (hb5.mono HB4.out.size))
      have HO5 := Lib.hid (OwnE_below HO4.out hb5)
      refine hK.out _ _ (HSx.out _ HB5.out) (fun hHeld => ?_)
      clear hK K hb5
      try simp only [Act.put, List.setIfInBounds_toArray, List.set_cons_zero, List.set_cons_succ]
      have hov := HOV.out.below HB5.out
      refine wpAnyH_ready (rs := [10]) (by kernel_rfl) (by simp) ?_
      refine AllReadyH.cons (by first | (simp only [List.getElem?_toArray, List.getElem?_cons_succ, List.getElem?_cons_zero]; rfl) | rfl) (fun K hK => ?_) AllReadyH.nil
      refine step_append_ev (base := w.heap.size) (v := .slice A2 es.length c2) (xs := es) (news := [(x2, (A4, c4))]) rfl _ _ rfl rfl rfl hov hne (fun h => by cases h) (by omega) (by simp) (Nat.le_trans HB9.out.size HB5.out.size) ?_
      intro A6 t6 c6 w6 HT6 HV6 HK6
      have HBs6 := Lib.hid (((HOB.out.below HB5.out).snoc (x := (x2, (A4, c4))) (HO5.out.wideE HB9.out.size)).grown hov HK6.out.2)
      have HB6 := Lib.hid (HB9.out.trans ((HB5.out.mono HB9.out.size).trans HK6.out.1))
      have n5 := (HB5.out.block X (lt_of_blk HX3.out)).trans HX3.out
      have n6 := (HK6.out.2 X (lt_of_blk n5) (ownV_ne hov n5 (by decide))).trans n5
      obtain ⟨a0, a1, a2, _⟩ := cells3E n6
      refine hK.out _ _ ⟨a0, a1, a2⟩ (fun hHeld => ?_)
      clear hK K
      try simp only [Act.put, List.setIfInBounds_toArray, List.set_cons_zero, List.set_cons_succ]
      refine wpAnyH_take (i := 11) (v := ?_) (by first | (simp only [List.getElem?_toArray, List.getElem?_cons_succ, List.getElem?_cons_zero]; rfl) | rfl) (by kernel_rfl) (by kernel_rfl) (by kernel_rfl) (fun _ _ _ h => h) (Or.inl ⟨by rfl, ?_⟩) (by assumption) ?_
      rotate_left 1
      · (intro w' hSw; (try dsimp only at hSw); go_simp; (try with_reducible rfl))
      try simp only [Act.put, List.setIfInBounds_toArray, List.set_cons_zero, List.set_cons_succ]
      refine wpAnyH_done (by kernel_rfl) ?_ _
      refine NoPanic.normal ?_
      go_wp2_with fail
      go_roundw
      case rel => exact ⟨i + 1, t6, A6, c6, by omega, by omega, rfl, by simp, Lib.hid (by rw [HT6.out, HT.out, evs_snoc, evs_snoc, List.map_append, HM.out, ← HX2.out]; rfl), HV6, by rw [HT6.out]; exact HBs6, HB6⟩
      case measure => simp [intOf]; omega
    · have hz1' : (200 : Int) < (x.1.bs.length : Int) := by omega
      have hz2' : ¬ (200 : Int) < (x.1.nm.length : Int) := by omega
      have hz3 : (200 : Int) ≤ (x.2.2 : Int) := by omega
      go_upto_region 10 with fail
      obtain ⟨x2, hx2⟩ : ∃ y, clipE x.1 = y := ⟨_, rfl⟩
      have HX2 := Lib.hid hx2
      have hk2 : x.1.kd = x2.kd := by rw [← hx2]; rfl
      have hb2' : x2.bs = x.1.bs.take 200 := by rw [← hx2]; rfl
      have hn2' : x2.nm = x.1.nm.take 200 := by rw [← hx2]; rfl
      have hl2 : x2.bs.length = min 200 x.1.bs.length := by rw [hb2', List.length_take]
      have hl3 : x2.bs.length ≤ 200 := by omega
      have hr3 : ∀ W3, Below wr.heap.size wr W3 → Rd W3 B x.2.1 (cb x2.bs) := fun W3 h => by rw [hb2', ← cb_take]; exact (r1.below h (Nat.le_trans hB hsz)).take_ 200
      have hn3 : x.2.1 = none → x2.bs = [] ∧ x.2.2 = 0 := fun h => ⟨by rw [hb2', (r3 h).1]; rfl, (r3 h).2⟩
      have e0 : (.int .i64 x.1.kd : Value) = .int .i64 x2.kd := by rw [hk2]
      have e1 : (Value.slice x.2.1 200 x.2.2) = .slice x.2.1 x2.bs.length x.2.2 := by rw [show x2.bs.length = 200 by omega]
      have e2 : (Value.string ⟨x.1.nm.toArray⟩) = .string ⟨x2.nm.toArray⟩ := by rw [hn2']; rw [List.take_of_length_le (by omega)]
      obtain ⟨W3, hW3⟩ : ∃ W, (W2.setCell ⟨X, 1, none⟩ (.slice x.2.1 200 x.2.2)) = W := ⟨_, rfl⟩
      have hw3 : W3.heap[X]? = some (.cells #[.int .i64 x2.kd, .slice x.2.1 x2.bs.length x.2.2, .string ⟨x2.nm.toArray⟩] 34 (0, 0)) := by rw [← hW3, ← e0, ← e1, ← e2]; exact (heap_setCell_same _ X 1 _ _ (.slice x.2.1 200 x.2.2) hw2)
      have HB3 := Lib.hid (show Below wr.heap.size wr W3 from by rw [← hW3]; exact (hb2.setCell (p := ⟨X, 1, none⟩) (Nat.le_of_eq hX) _))
      replace hr3 := hr3 W3 HB3.out
      rw [hW3]
      clear hl2 hW3 hW2 e0 e1 e2 hw2 hb2 f0 f1 f2 f3 hx2 hk2 hb2' hn2' c0 c1 c2' r1 r3
      have hb3 := HB3.out
      have HSx : Hid (∀ w' : World, Below W3.heap.size W3 w' → w'.cell? ⟨X, 0, none⟩ = some (.int .i64 x2.kd) ∧ w'.cell? ⟨X, 1, none⟩ = some (.slice x.2.1 x2.bs.length x.2.2) ∧ w'.cell? ⟨X, 2, none⟩ = some (.string ⟨x2.nm.toArray⟩)) := Lib.hid (fun w' h => by
        obtain ⟨a0, a1, a2, _⟩ := cells3E ((h.block _ (lt_of_blk hw3)).trans hw3)
        exact ⟨a0, a1, a2⟩)
      have HB9 := Lib.hid (HO.out.trans (hb3.mono hsz))
      have hcp := copy_any x2.bs x.2.2 B x.2.1 W3.drew (hr3.below (Below.refl _ _).drew (Nat.le_trans hB HB9.out.size)) (Nat.le_trans hB HB9.out.size) (by omega) hn3
      have HOV := Lib.hid (HV.out.below hb3)
      have HOB := Lib.hid (HBs.out.below hb3)
      have HX3 := Lib.hid hw3
      clear hw3 hr3
      refine wp_region_noPanic ?_
      refine wp_region_held_drew (S := (fun w' : World => w'.cell? ⟨X, 0, none⟩ = some (.int .i64 x2.kd) ∧ w'.cell? ⟨X, 1, none⟩ = some (.slice x.2.1 x2.bs.length x.2.2) ∧ w'.cell? ⟨X, 2, none⟩ = some (.string ⟨x2.nm.toArray⟩))) (by kernel_rfl) (HSx.out _ (Below.refl _ _).drew) (fun hHeld => ?_)
      refine wpAnyH_take (i := 0) (v := ?_) (by first | (simp only [List.getElem?_toArray, List.getElem?_cons_succ, List.getElem?_cons_zero]; rfl) | rfl) (by kernel_rfl) (by kernel_rfl) (by kernel_rfl) (fun _ _ _ h => h) (Or.inl ⟨by rfl, ?_⟩) (by assumption) ?_
      rotate_left 1
      · (intro w' hSw; (try dsimp only at hSw); go_simp; (try with_reducible rfl))
      try simp only [Act.put, List.setIfInBounds_toArray, List.set_cons_zero, List.set_cons_succ]
      refine wpAnyH_take (i := 1) (v := ?_) (by first | (simp only [List.getElem?_toArray, List.getElem?_cons_succ, List.getElem?_cons_zero]; rfl) | rfl) (by kernel_rfl) (by kernel_rfl) (by kernel_rfl) (fun _ _ _ h => h) (Or.inl ⟨by rfl, ?_⟩) (by assumption) ?_
      rotate_left 1
      · (intro w' hSw; (try dsimp only at hSw); go_simp; (try with_reducible rfl))
      try simp only [Act.put, List.setIfInBounds_toArray, List.set_cons_zero, List.set_cons_succ]
      refine wpAnyH_take (i := 2) (v := ?_) (by first | (simp only [List.getElem?_toArray, List.getElem?_cons_succ, List.getElem?_cons_zero]; rfl) | rfl) (by kernel_rfl) (by kernel_rfl) (by kernel_rfl) (fun _ _ _ h => h) (Or.inl ⟨by rfl, ?_⟩) (by assumption) ?_
      rotate_left 1
      · (intro w' hSw; (try dsimp only at hSw); go_simp; (try with_reducible rfl))
      try simp only [Act.put, List.setIfInBounds_toArray, List.set_cons_zero, List.set_cons_succ]
      refine wpAnyH_take (i := 3) (v := ?_) (by first | (simp only [List.getElem?_toArray, List.getElem?_cons_succ, List.getElem?_cons_zero]; rfl) | rfl) (by kernel_rfl) (by kernel_rfl) (by kernel_rfl) (fun _ _ _ h => h) (Or.inl ⟨by rfl, ?_⟩) (by assumption) ?_
      rotate_left 1
      · (intro w' hSw; (try dsimp only at hSw); go_simp; (try with_reducible rfl))
      try simp only [Act.put, List.setIfInBounds_toArray, List.set_cons_zero, List.set_cons_succ]
      refine wpAnyH_take (i := 4) (v := ?_) (by first | (simp only [List.getElem?_toArray, List.getElem?_cons_succ, List.getElem?_cons_zero]; rfl) | rfl) (by kernel_rfl) (by kernel_rfl) (by kernel_rfl) (fun _ _ _ h => h) (Or.inl ⟨by rfl, ?_⟩) (by assumption) ?_
      rotate_left 1
      · (intro w' hSw; (try dsimp only at hSw); go_simp; (try with_reducible rfl))
      try simp only [Act.put, List.setIfInBounds_toArray, List.set_cons_zero, List.set_cons_succ]
      refine wpAnyH_take (i := 6) (v := ?_) (by first | (simp only [List.getElem?_toArray, List.getElem?_cons_succ, List.getElem?_cons_zero]; rfl) | rfl) (by kernel_rfl) (by kernel_rfl) (by kernel_rfl) (fun _ _ _ h => h) (Or.inl ⟨by rfl, ?_⟩) (by assumption) ?_
      rotate_left 1
      · (intro w' hSw; (try dsimp only at hSw); go_simp; (try with_reducible rfl))
      try simp only [Act.put, List.setIfInBounds_toArray, List.set_cons_zero, List.set_cons_succ]
      refine wpAnyH_take (i := 7) (v := ?_) (by first | (simp only [List.getElem?_toArray, List.getElem?_cons_succ, List.getElem?_cons_zero]; rfl) | rfl) (by kernel_rfl) (by kernel_rfl) (by kernel_rfl) (fun _ _ _ h => h) (Or.inl ⟨by rfl, ?_⟩) (by assumption) ?_
      rotate_left 1
      · (intro w' hSw; (try dsimp only at hSw); go_simp; (try with_reducible rfl))
      try simp only [Act.put, List.setIfInBounds_toArray, List.set_cons_zero, List.set_cons_succ]
      refine wpAnyH_ready (rs := [5]) (by kernel_rfl) (by simp) ?_
      refine AllReadyH.cons (by first | (simp only [List.getElem?_toArray, List.getElem?_cons_succ, List.getElem?_cons_zero]; rfl) | rfl) (fun K hK => ?_) AllReadyH.nil
      go_simp
      refine hcp.mono ?_
      rintro e W4 ⟨v4, rfl, ho4, hb4⟩
      dsimp only
      obtain ⟨A4, c4, rfl⟩ := ownE_slice ho4
      have HB4 := Lib.hid ((Below.refl W3.heap.size W3).drew.trans hb4)
      have HO4 := Lib.hid (show Own W4 W3.heap.size _ _ from ho4)
      clear hcp ho4 hb4
      refine hK.out _ _ (HSx.out _ HB4.out) (fun hHeld => ?_)
      clear hK K
      try simp only [Act.put, List.setIfInBounds_toArray, List.set_cons_zero, List.set_cons_succ]
      refine wpAnyH_take (i := 8) (v := ?_) (by first | (simp only [List.getElem?_toArray, List.getElem?_cons_succ, List.getElem?_cons_zero]; rfl) | rfl) (by kernel_rfl) (by kernel_rfl) (by kernel_rfl) (fun _ _ _ h => h) (Or.inl ⟨by rfl, ?_⟩) (by assumption) ?_
      rotate_left 1
      · (intro w' hSw; (try dsimp only at hSw); go_simp; (try with_reducible rfl))
      try simp only [Act.put, List.setIfInBounds_toArray, List.set_cons_zero, List.set_cons_succ]
      refine wpAnyH_ready (rs := [9]) (by kernel_rfl) (by simp) ?_
      refine AllReadyH.cons (by first | (simp only [List.getElem?_toArray, List.getElem?_cons_succ, List.getElem?_cons_zero]; rfl) | rfl) (fun K hK => ?_) AllReadyH.nil
      go_simp
      obtain ⟨W5, hW5⟩ : ∃ W, W4.alloc (.cells (ee3 (x2, (A4, c4))).toArray 45) = W := ⟨_, rfl⟩
      have hb5 : Below W4.heap.size W4 W5 := by rw [← hW5]; exact (Below.refl _ _).alloc (Nat.le_refl _) _
      have hne : Rd W5 W5.heap.size (some ⟨W4.heap.size, 0, none⟩) (ee_ [(x2, (A4, c4))]) := by rw [← hW5]; exact ee_one1 W4 (x2, (A4, c4))
      show K _ (W4.alloc (.cells (ee3 (x2, (A4, c4))).toArray 45))
      rw [hW5]
      clear hW5
      have HB5 := Lib.hid (HB4.out.trans (hb5.mono HB4.out.size))
      have HO5 := Lib.hid (OwnE_below HO4.out hb5)
      refine hK.out _ _ (HSx.out _ HB5.out) (fun hHeld => ?_)
      clear hK K hb5
      try simp only [Act.put, List.setIfInBounds_toArray, List.set_cons_zero, List.set_cons_succ]
      have hov := HOV.out.below HB5.out
      refine wpAnyH_ready (rs := [10]) (by kernel_rfl) (by simp) ?_
      refine AllReadyH.cons (by first | (simp only [List.getElem?_toArray, List.getElem?_cons_succ, List.getElem?_cons_zero]; rfl) | rfl) (fun K hK => ?_) AllReadyH.nil
      refine step_append_ev (base := w.heap.size) (v := .slice A2 es.length c2) (xs := es) (news := [(x2, (A4, c4))]) rfl _ _ rfl rfl rfl hov hne (fun h => by cases h) (by omega) (by simp) (Nat.le_trans HB9.out.size HB5.out.size) ?_
      intro A6 t6 c6 w6 HT6 HV6 HK6
      have HBs6 := Lib.hid (((HOB.out.below HB5.out).snoc (x := (x2, (A4, c4))) (HO5.out.wideE HB9.out.size)).grown hov HK6.out.2)
      have HB6 := Lib.hid (HB9.out.trans ((HB5.out.mono HB9.out.size).trans HK6.out.1))
      have n5 := (HB5.out.block X (lt_of_blk HX3.out)).trans HX3.out
      have n6 := (HK6.out.2 X (lt_of_blk n5) (ownV_ne hov n5 (by decide))).trans n5
      obtain ⟨a0, a1, a2, _⟩ := cells3E n6
      refine hK.out _ _ ⟨a0, a1, a2⟩ (fun hHeld => ?_)
      clear hK K
      try simp only [Act.put, List.setIfInBounds_toArray, List.set_cons_zero, List.set_cons_succ]
      refine wpAnyH_take (i := 11) (v := ?_) (by first | (simp only [List.getElem?_toArray, List.getElem?_cons_succ, List.getElem?_cons_zero]; rfl) | rfl) (by kernel_rfl) (by kernel_rfl) (by kernel_rfl) (fun _ _ _ h => h) (Or.inl ⟨by rfl, ?_⟩) (by assumption) ?_
      rotate_left 1
      · (intro w' hSw; (try dsimp only at hSw); go_simp; (try with_reducible rfl))
      try simp only [Act.put, List.setIfInBounds_toArray, List.set_cons_zero, List.set_cons_succ]
      refine wpAnyH_done (by kernel_rfl) ?_ _
      refine NoPanic.normal ?_
      go_wp2_with fail
      go_roundw
      case rel => exact ⟨i + 1, t6, A6, c6, by omega, by omega, rfl, by simp, Lib.hid (by rw [HT6.out, HT.out, evs_snoc, evs_snoc, List.map_append, HM.out, ← HX2.out]; rfl), HV6, by rw [HT6.out]; exact HBs6, HB6⟩
      case measure => simp [intOf]; omega
    · have hz1' : ¬ (200 : Int) < (x.1.bs.length : Int) := by omega
      have hz2' : (200 : Int) < (x.1.nm.length : Int) := by omega
      go_upto_region 10 with fail
      obtain ⟨x2, hx2⟩ : ∃ y, clipE x.1 = y := ⟨_, rfl⟩
      have HX2 := Lib.hid hx2
      have hk2 : x.1.kd = x2.kd := by rw [← hx2]; rfl
      have hb2' : x2.bs = x.1.bs.take 200 := by rw [← hx2]; rfl
      have hn2' : x2.nm = x.1.nm.take 200 := by rw [← hx2]; rfl
      have hl2 : x2.bs.length = min 200 x.1.bs.length := by rw [hb2', List.length_take]
      have hl3 : x2.bs.length ≤ 200 := by omega
      have hr3 : ∀ W3, Below wr.heap.size wr W3 → Rd W3 B x.2.1 (cb x2.bs) := fun W3 h => by rw [hb2', ← cb_take]; exact (r1.below h (Nat.le_trans hB hsz)).take_ 200
      have hn3 : x.2.1 = none → x2.bs = [] ∧ x.2.2 = 0 := fun h => ⟨by rw [hb2', (r3 h).1]; rfl, (r3 h).2⟩
      have e0 : (.int .i64 x.1.kd : Value) = .int .i64 x2.kd := by rw [hk2]
      have e1 : (Value.slice x.2.1 x.1.bs.length x.2.2) = .slice x.2.1 x2.bs.length x.2.2 := by rw [show x2.bs.length = x.1.bs.length by omega]
      have e2 : (Value.string ((⟨x.1.nm.toArray⟩ : ByteArray).extract 0 200)) = .string ⟨x2.nm.toArray⟩ := by rw [hn2']; exact congrArg Value.string (ext_take _ _)
      obtain ⟨W3, hW3⟩ : ∃ W, (W2.setCell ⟨X, 2, none⟩ (.string ((⟨x.1.nm.toArray⟩ : ByteArray).extract 0 200))) = W := ⟨_, rfl⟩
      have hw3 : W3.heap[X]? = some (.cells #[.int .i64 x2.kd, .slice x.2.1 x2.bs.length x.2.2, .string ⟨x2.nm.toArray⟩] 34 (0, 0)) := by rw [← hW3, ← e0, ← e1, ← e2]; exact (heap_setCell_same _ X 2 _ _ (.string ((⟨x.1.nm.toArray⟩ : ByteArray).extract 0 200)) hw2)
      have HB3 := Lib.hid (show Below wr.heap.size wr W3 from by rw [← hW3]; exact (hb2.setCell (p := ⟨X, 2, none⟩) (Nat.le_of_eq hX) _))
      replace hr3 := hr3 W3 HB3.out
      rw [hW3]
      clear hl2 hW3 hW2 e0 e1 e2 hw2 hb2 f0 f1 f2 f3 hx2 hk2 hb2' hn2' c0 c1 c2' r1 r3
      have hb3 := HB3.out
      have HSx : Hid (∀ w' : World, Below W3.heap.size W3 w' → w'.cell? ⟨X, 0, none⟩ = some (.int .i64 x2.kd) ∧ w'.cell? ⟨X, 1, none⟩ = some (.slice x.2.1 x2.bs.length x.2.2) ∧ w'.cell? ⟨X, 2, none⟩ = some (.string ⟨x2.nm.toArray⟩)) := Lib.hid (fun w' h => by
        obtain ⟨a0, a1, a2, _⟩ := cells3E ((h.block _ (lt_of_blk hw3)).trans hw3)
        exact ⟨a0, a1, a2⟩)
      have HB9 := Lib.hid (HO.out.trans (hb3.mono hsz))
      have hcp := copy_any x2.bs x.2.2 B x.2.1 W3.drew (hr3.below (Below.refl _ _).drew (Nat.le_trans hB HB9.out.size)) (Nat.le_trans hB HB9.out.size) (by omega) hn3
      have HOV := Lib.hid (HV.out.below hb3)
      have HOB := Lib.hid (HBs.out.below hb3)
      have HX3 := Lib.hid hw3
      clear hw3 hr3
      refine wp_region_noPanic ?_
      refine wp_region_held_drew (S := (fun w' : World => w'.cell? ⟨X, 0, none⟩ = some (.int .i64 x2.kd) ∧ w'.cell? ⟨X, 1, none⟩ = some (.slice x.2.1 x2.bs.length x.2.2) ∧ w'.cell? ⟨X, 2, none⟩ = some (.string ⟨x2.nm.toArray⟩))) (by kernel_rfl) (HSx.out _ (Below.refl _ _).drew) (fun hHeld => ?_)
      refine wpAnyH_take (i := 0) (v := ?_) (by first | (simp only [List.getElem?_toArray, List.getElem?_cons_succ, List.getElem?_cons_zero]; rfl) | rfl) (by kernel_rfl) (by kernel_rfl) (by kernel_rfl) (fun _ _ _ h => h) (Or.inl ⟨by rfl, ?_⟩) (by assumption) ?_
      rotate_left 1
      · (intro w' hSw; (try dsimp only at hSw); go_simp; (try with_reducible rfl))
      try simp only [Act.put, List.setIfInBounds_toArray, List.set_cons_zero, List.set_cons_succ]
      refine wpAnyH_take (i := 1) (v := ?_) (by first | (simp only [List.getElem?_toArray, List.getElem?_cons_succ, List.getElem?_cons_zero]; rfl) | rfl) (by kernel_rfl) (by kernel_rfl) (by kernel_rfl) (fun _ _ _ h => h) (Or.inl ⟨by rfl, ?_⟩) (by assumption) ?_
      rotate_left 1
      · (intro w' hSw; (try dsimp only at hSw); go_simp; (try with_reducible rfl))
      try simp only [Act.put, List.setIfInBounds_toArray, List.set_cons_zero, List.set_cons_succ]
      refine wpAnyH_take (i := 2) (v := ?_) (by first | (simp only [List.getElem?_toArray, List.getElem?_cons_succ, List.getElem?_cons_zero]; rfl) | rfl) (by kernel_rfl) (by kernel_rfl) (by kernel_rfl) (fun _ _ _ h => h) (Or.inl ⟨by rfl, ?_⟩) (by assumption) ?_
      rotate_left 1
      · (intro w' hSw; (try dsimp only at hSw); go_simp; (try with_reducible rfl))
      try simp only [Act.put, List.setIfInBounds_toArray, List.set_cons_zero, List.set_cons_succ]
      refine wpAnyH_take (i := 3) (v := ?_) (by first | (simp only [List.getElem?_toArray, List.getElem?_cons_succ, List.getElem?_cons_zero]; rfl) | rfl) (by kernel_rfl) (by kernel_rfl) (by kernel_rfl) (fun _ _ _ h => h) (Or.inl ⟨by rfl, ?_⟩) (by assumption) ?_
      rotate_left 1
      · (intro w' hSw; (try dsimp only at hSw); go_simp; (try with_reducible rfl))
      try simp only [Act.put, List.setIfInBounds_toArray, List.set_cons_zero, List.set_cons_succ]
      refine wpAnyH_take (i := 4) (v := ?_) (by first | (simp only [List.getElem?_toArray, List.getElem?_cons_succ, List.getElem?_cons_zero]; rfl) | rfl) (by kernel_rfl) (by kernel_rfl) (by kernel_rfl) (fun _ _ _ h => h) (Or.inl ⟨by rfl, ?_⟩) (by assumption) ?_
      rotate_left 1
      · (intro w' hSw; (try dsimp only at hSw); go_simp; (try with_reducible rfl))
      try simp only [Act.put, List.setIfInBounds_toArray, List.set_cons_zero, List.set_cons_succ]
      refine wpAnyH_take (i := 6) (v := ?_) (by first | (simp only [List.getElem?_toArray, List.getElem?_cons_succ, List.getElem?_cons_zero]; rfl) | rfl) (by kernel_rfl) (by kernel_rfl) (by kernel_rfl) (fun _ _ _ h => h) (Or.inl ⟨by rfl, ?_⟩) (by assumption) ?_
      rotate_left 1
      · (intro w' hSw; (try dsimp only at hSw); go_simp; (try with_reducible rfl))
      try simp only [Act.put, List.setIfInBounds_toArray, List.set_cons_zero, List.set_cons_succ]
      refine wpAnyH_take (i := 7) (v := ?_) (by first | (simp only [List.getElem?_toArray, List.getElem?_cons_succ, List.getElem?_cons_zero]; rfl) | rfl) (by kernel_rfl) (by kernel_rfl) (by kernel_rfl) (fun _ _ _ h => h) (Or.inl ⟨by rfl, ?_⟩) (by assumption) ?_
      rotate_left 1
      · (intro w' hSw; (try dsimp only at hSw); go_simp; (try with_reducible rfl))
      try simp only [Act.put, List.setIfInBounds_toArray, List.set_cons_zero, List.set_cons_succ]
      refine wpAnyH_ready (rs := [5]) (by kernel_rfl) (by simp) ?_
      refine AllReadyH.cons (by first | (simp only [List.getElem?_toArray, List.getElem?_cons_succ, List.getElem?_cons_zero]; rfl) | rfl) (fun K hK => ?_) AllReadyH.nil
      go_simp
      refine hcp.mono ?_
      rintro e W4 ⟨v4, rfl, ho4, hb4⟩
      dsimp only
      obtain ⟨A4, c4, rfl⟩ := ownE_slice ho4
      have HB4 := Lib.hid ((Below.refl W3.heap.size W3).drew.trans hb4)
      have HO4 := Lib.hid (show Own W4 W3.heap.size _ _ from ho4)
      clear hcp ho4 hb4
      refine hK.out _ _ (HSx.out _ HB4.out) (fun hHeld => ?_)
      clear hK K
      try simp only [Act.put, List.setIfInBounds_toArray, List.set_cons_zero, List.set_cons_succ]
      refine wpAnyH_take (i := 8) (v := ?_) (by first | (simp only [List.getElem?_toArray, List.getElem?_cons_succ, List.getElem?_cons_zero]; rfl) | rfl) (by kernel_rfl) (by kernel_rfl) (by kernel_rfl) (fun _ _ _ h => h) (Or.inl ⟨by rfl, ?_⟩) (by assumption) ?_
      rotate_left 1
      · (intro w' hSw; (try dsimp only at hSw); go_simp; (try with_reducible rfl))
      try simp only [Act.put, List.setIfInBounds_toArray, List.set_cons_zero, List.set_cons_succ]
      refine wpAnyH_ready (rs := [9]) (by kernel_rfl) (by simp) ?_
      refine AllReadyH.cons (by first | (simp only [List.getElem?_toArray, List.getElem?_cons_succ, List.getElem?_cons_zero]; rfl) | rfl) (fun K hK => ?_) AllReadyH.nil
      go_simp
      obtain ⟨W5, hW5⟩ : ∃ W, W4.alloc (.cells (ee3 (x2, (A4, c4))).toArray 45) = W := ⟨_, rfl⟩
      have hb5 : Below W4.heap.size W4 W5 := by rw [← hW5]; exact (Below.refl _ _).alloc (Nat.le_refl _) _
      have hne : Rd W5 W5.heap.size (some ⟨W4.heap.size, 0, none⟩) (ee_ [(x2, (A4, c4))]) := by rw [← hW5]; exact ee_one1 W4 (x2, (A4, c4))
      show K _ (W4.alloc (.cells (ee3 (x2, (A4, c4))).toArray 45))
      rw [hW5]
      clear hW5
      have HB5 := Lib.hid (HB4.out.trans (hb5.mono HB4.out.size))
      have HO5 := Lib.hid (OwnE_below HO4.out hb5)
      refine hK.out _ _ (HSx.out _ HB5.out) (fun hHeld => ?_)
      clear hK K hb5
      try simp only [Act.put, List.setIfInBounds_toArray, List.set_cons_zero, List.set_cons_succ]
      have hov := HOV.out.below HB5.out
      refine wpAnyH_ready (rs := [10]) (by kernel_rfl) (by simp) ?_
      refine AllReadyH.cons (by first | (simp only [List.getElem?_toArray, List.getElem?_cons_succ, List.getElem?_cons_zero]; rfl) | rfl) (fun K hK => ?_) AllReadyH.nil
      refine step_append_ev (base := w.heap.size) (v := .slice A2 es.length c2) (xs := es) (news := [(x2, (A4, c4))]) rfl _ _ rfl rfl rfl hov hne (fun h => by cases h) (by omega) (by simp) (Nat.le_trans HB9.out.size HB5.out.size) ?_
      intro A6 t6 c6 w6 HT6 HV6 HK6
      have HBs6 := Lib.hid (((HOB.out.below HB5.out).snoc (x := (x2, (A4, c4))) (HO5.out.wideE HB9.out.size)).grown hov HK6.out.2)
      have HB6 := Lib.hid (HB9.out.trans ((HB5.out.mono HB9.out.size).trans HK6.out.1))
      have n5 := (HB5.out.block X (lt_of_blk HX3.out)).trans HX3.out
      have n6 := (HK6.out.2 X (lt_of_blk n5) (ownV_ne hov n5 (by decide))).trans n5
      obtain ⟨a0, a1, a2, _⟩ := cells3E n6
      refine hK.out _ _ ⟨a0, a1, a2⟩ (fun hHeld => ?_)
      clear hK K
      try simp only [Act.put, List.setIfInBounds_toArray, List.set_cons_zero, List.set_cons_succ]
      refine wpAnyH_take (i := 11) (v := ?_) (by first | (simp only [List.getElem?_toArray, List.getElem?_cons_succ, List.getElem?_cons_zero]; rfl) | rfl) (by kernel_rfl) (by kernel_rfl) (by kernel_rfl) (fun _ _ _ h => h) (Or.inl ⟨by rfl, ?_⟩) (by assumption) ?_
      rotate_left 1
      · (intro w' hSw; (try dsimp only at hSw); go_simp; (try with_reducible rfl))
      try simp only [Act.put, List.setIfInBounds_toArray, List.set_cons_zero, List.set_cons_succ]
      refine wpAnyH_done (by kernel_rfl) ?_ _
      refine NoPanic.normal ?_
      go_wp2_with fail
      go_roundw
      case rel => exact ⟨i + 1, t6, A6, c6, by omega, by omega, rfl, by simp, Lib.hid (by rw [HT6.out, HT.out, evs_snoc, evs_snoc, List.map_append, HM.out, ← HX2.out]; rfl), HV6, by rw [HT6.out]; exact HBs6, HB6⟩
      case measure => simp [intOf]; omega
    · have hz1' : ¬ (200 : Int) < (x.1.bs.length : Int) := by omega
      have hz2' : ¬ (200 : Int) < (x.1.nm.length : Int) := by omega
      go_upto_region 10 with fail
      obtain ⟨x2, hx2⟩ : ∃ y, clipE x.1 = y := ⟨_, rfl⟩
      have HX2 := Lib.hid hx2
      have hk2 : x.1.kd = x2.kd := by rw [← hx2]; rfl
      have hb2' : x2.bs = x.1.bs.take 200 := by rw [← hx2]; rfl
      have hn2' : x2.nm = x.1.nm.take 200 := by rw [← hx2]; rfl
      have hl2 : x2.bs.length = min 200 x.1.bs.length := by rw [hb2', List.length_take]
      have hl3 : x2.bs.length ≤ 200 := by omega
      have hr3 : ∀ W3, Below wr.heap.size wr W3 → Rd W3 B x.2.1 (cb x2.bs) := fun W3 h => by rw [hb2', ← cb_take]; exact (r1.below h (Nat.le_trans hB hsz)).take_ 200
      have hn3 : x.2.1 = none → x2.bs = [] ∧ x.2.2 = 0 := fun h => ⟨by rw [hb2', (r3 h).1]; rfl, (r3 h).2⟩
      have e0 : (.int .i64 x.1.kd : Value) = .int .i64 x2.kd := by rw [hk2]
      have e1 : (Value.slice x.2.1 x.1.bs.length x.2.2) = .slice x.2.1 x2.bs.length x.2.2 := by rw [show x2.bs.length = x.1.bs.length by omega]
      have e2 : (Value.string ⟨x.1.nm.toArray⟩) = .string ⟨x2.nm.toArray⟩ := by rw [hn2']; rw [List.take_of_length_le (by omega)]
      obtain ⟨W3, hW3⟩ : ∃ W, W2 = W := ⟨_, rfl⟩
      have hw3 : W3.heap[X]? = some (.cells #[.int .i64 x2.kd, .slice x.2.1 x2.bs.length x.2.2, .string ⟨x2.nm.toArray⟩] 34 (0, 0)) := by rw [← hW3, ← e0, ← e1, ← e2]; exact hw2
      have HB3 := Lib.hid (show Below wr.heap.size wr W3 from by rw [← hW3]; exact hb2)
      replace hr3 := hr3 W3 HB3.out
      rw [hW3]
      clear hl2 hW3 hW2 e0 e1 e2 hw2 hb2 f0 f1 f2 f3 hx2 hk2 hb2' hn2' c0 c1 c2' r1 r3
      have hb3 := HB3.out
      have HSx : Hid (∀ w' : World, Below W3.heap.size W3 w' → w'.cell? ⟨X, 0, none⟩ = some (.int .i64 x2.kd) ∧ w'.cell? ⟨X, 1, none⟩ = some (.slice x.2.1 x2.bs.length x.2.2) ∧ w'.cell? ⟨X, 2, none⟩ = some (.string ⟨x2.nm.toArray⟩)) := Lib.hid (fun w' h => by
        obtain ⟨a0, a1, a2, _⟩ := cells3E ((h.block _ (lt_of_blk hw3)).trans hw3)
        exact ⟨a0, a1, a2⟩)
      have HB9 := Lib.hid (HO.out.trans (hb3.mono hsz))
      have hcp := copy_any x2.bs x.2.2 B x.2.1 W3.drew (hr3.below (Below.refl _ _).drew (Nat.le_trans hB HB9.out.size)) (Nat.le_trans hB HB9.out.size) (by omega) hn3
      have HOV := Lib.hid (HV.out.below hb3)
      have HOB := Lib.hid (HBs.out.below hb3)
      have HX3 := Lib.hid hw3
      clear hw3 hr3
      refine wp_region_noPanic ?_
      refine wp_region_held_drew (S := (fun w' : World => w'.cell? ⟨X, 0, none⟩ = some (.int .i64 x2.kd) ∧ w'.cell? ⟨X, 1, none⟩ = some (.slice x.2.1 x2.bs.length x.2.2) ∧ w'.cell? ⟨X, 2, none⟩ = some (.string ⟨x2.nm.toArray⟩))) (by kernel_rfl) (HSx.out _ (Below.refl _ _).drew) (fun hHeld => ?_)
      refine wpAnyH_take (i := 0) (v := ?_) (by first | (simp only [List.getElem?_toArray, List.getElem?_cons_succ, List.getElem?_cons_zero]; rfl) | rfl) (by kernel_rfl) (by kernel_rfl) (by kernel_rfl) (fun _ _ _ h => h) (Or.inl ⟨by rfl, ?_⟩) (by assumption) ?_
      rotate_left 1
      · (intro w' hSw; (try dsimp only at hSw); go_simp; (try with_reducible rfl))
      try simp only [Act.put, List.setIfInBounds_toArray, List.set_cons_zero, List.set_cons_succ]
      refine wpAnyH_take (i := 1) (v := ?_) (by first | (simp only [List.getElem?_toArray, List.getElem?_cons_succ, List.getElem?_cons_zero]; rfl) | rfl) (by kernel_rfl) (by kernel_rfl) (by kernel_rfl) (fun _ _ _ h => h) (Or.inl ⟨by rfl, ?_⟩) (by assumption) ?_
      rotate_left 1
      · (intro w' hSw; (try dsimp only at hSw); go_simp; (try with_reducible rfl))
      try simp only [Act.put, List.setIfInBounds_toArray, List.set_cons_zero, List.set_cons_succ]
      refine wpAnyH_take (i := 2) (v := ?_) (by first | (simp only [List.getElem?_toArray, List.getElem?_cons_succ, List.getElem?_cons_zero]; rfl) | rfl) (by kernel_rfl) (by kernel_rfl) (by kernel_rfl) (fun _ _ _ h => h) (Or.inl ⟨by rfl, ?_⟩) (by assumption) ?_
      rotate_left 1
      · (intro w' hSw; (try dsimp only at hSw); go_simp; (try with_reducible rfl))
      try simp only [Act.put, List.setIfInBounds_toArray, List.set_cons_zero, List.set_cons_succ]
      refine wpAnyH_take (i := 3) (v := ?_) (by first | (simp only [List.getElem?_toArray, List.getElem?_cons_succ, List.getElem?_cons_zero]; rfl) | rfl) (by kernel_rfl) (by kernel_rfl) (by kernel_rfl) (fun _ _ _ h => h) (Or.inl ⟨by rfl, ?_⟩) (by assumption) ?_
      rotate_left 1
      · (intro w' hSw; (try dsimp only at hSw); go_simp; (try with_reducible rfl))
      try simp only [Act.put, List.setIfInBounds_toArray, List.set_cons_zero, List.set_cons_succ]
      refine wpAnyH_take (i := 4) (v := ?_) (by first | (simp only [List.getElem?_toArray, List.getElem?_cons_succ, List.getElem?_cons_zero]; rfl) | rfl) (by kernel_rfl) (by kernel_rfl) (by kernel_rfl) (fun _ _ _ h => h) (Or.inl ⟨by rfl, ?_⟩) (by assumption) ?_
      rotate_left 1
      · (intro w' hSw; (try dsimp only at hSw); go_simp; (try with_reducible rfl))
      try simp only [Act.put, List.setIfInBounds_toArray, List.set_cons_zero, List.set_cons_succ]
      refine wpAnyH_take (i := 6) (v := ?_) (by first | (simp only [List.getElem?_toArray, List.getElem?_cons_succ, List.getElem?_cons_zero]; rfl) | rfl) (by kernel_rfl) (by kernel_rfl) (by kernel_rfl) (fun _ _ _ h => h) (Or.inl ⟨by rfl, ?_⟩) (by assumption) ?_
      rotate_left 1
      · (intro w' hSw; (try dsimp only at hSw); go_simp; (try with_reducible rfl))
      try simp only [Act.put, List.setIfInBounds_toArray, List.set_cons_zero, List.set_cons_succ]
      refine wpAnyH_take (i := 7) (v := ?_) (by first | (simp only [List.getElem?_toArray, List.getElem?_cons_succ, List.getElem?_cons_zero]; rfl) | rfl) (by kernel_rfl) (by kernel_rfl) (by kernel_rfl) (fun _ _ _ h => h) (Or.inl ⟨by rfl, ?_⟩) (by assumption) ?_
      rotate_left 1
      · (intro w' hSw; (try dsimp only at hSw); go_simp; (try with_reducible rfl))
      try simp only [Act.put, List.setIfInBounds_toArray, List.set_cons_zero, List.set_cons_succ]
      refine wpAnyH_ready (rs := [5]) (by kernel_rfl) (by simp) ?_
      refine AllReadyH.cons (by first | (simp only [List.getElem?_toArray, List.getElem?_cons_succ, List.getElem?_cons_zero]; rfl) | rfl) (fun K hK => ?_) AllReadyH.nil
      go_simp
      refine hcp.mono ?_
      rintro e W4 ⟨v4, rfl, ho4, hb4⟩
      dsimp only
      obtain ⟨A4, c4, rfl⟩ := ownE_slice ho4
      have HB4 := Lib.hid ((Below.refl W3.heap.size W3).drew.trans hb4)
      have HO4 := Lib.hid (show Own W4 W3.heap.size _ _ from ho4)
      clear hcp ho4 hb4
      refine hK.out _ _ (HSx.out _ HB4.out) (fun hHeld => ?_)
      clear hK K
      try simp only [Act.put, List.setIfInBounds_toArray, List.set_cons_zero, List.set_cons_succ]
      refine wpAnyH_take (i := 8) (v := ?_) (by first | (simp only [List.getElem?_toArray, List.getElem?_cons_succ, List.getElem?_cons_zero]; rfl) | rfl) (by kernel_rfl) (by kernel_rfl) (by kernel_rfl) (fun _ _ _ h => h) (Or.inl ⟨by rfl, ?_⟩) (by assumption) ?_
      rotate_left 1
      · (intro w' hSw; (try dsimp only at hSw); go_simp; (try with_reducible rfl))
      try simp only [Act.put, List.setIfInBounds_toArray, List.set_cons_zero, List.set_cons_succ]
      refine wpAnyH_ready (rs := [9]) (by kernel_rfl) (by simp) ?_
      refine AllReadyH.cons (by first | (simp only [List.getElem?_toArray, List.getElem?_cons_succ, List.getElem?_cons_zero]; rfl) | rfl) (fun K hK => ?_) AllReadyH.nil
      go_simp
      obtain ⟨W5, hW5⟩ : ∃ W, W4.alloc (.cells (ee3 (x2, (A4, c4))).toArray 45) = W := ⟨_, rfl⟩
      have hb5 : Below W4.heap.size W4 W5 := by rw [← hW5]; exact (Below.refl _ _).alloc (Nat.le_refl _) _
      have hne : Rd W5 W5.heap.size (some ⟨W4.heap.size, 0, none⟩) (ee_ [(x2, (A4, c4))]) := by rw [← hW5]; exact ee_one1 W4 (x2, (A4, c4))
      show K _ (W4.alloc (.cells (ee3 (x2, (A4, c4))).toArray 45))
      rw [hW5]
      clear hW5
      have HB5 := Lib.hid (HB4.out.trans (hb5.mono HB4.out.size))
      have HO5 := Lib.hid (OwnE_below HO4.out hb5)
      refine hK.out _ _ (HSx.out _ HB5.out) (fun hHeld => ?_)
      clear hK K hb5
      try simp only [Act.put, List.setIfInBounds_toArray, List.set_cons_zero, List.set_cons_succ]
      have hov := HOV.out.below HB5.out
      refine wpAnyH_ready (rs := [10]) (by kernel_rfl) (by simp) ?_
      refine AllReadyH.cons (by first | (simp only [List.getElem?_toArray, List.getElem?_cons_succ, List.getElem?_cons_zero]; rfl) | rfl) (fun K hK => ?_) AllReadyH.nil
      refine step_append_ev (base := w.heap.size) (v := .slice A2 es.length c2) (xs := es) (news := [(x2, (A4, c4))]) rfl _ _ rfl rfl rfl hov hne (fun h => by cases h) (by omega) (by simp) (Nat.le_trans HB9.out.size HB5.out.size) ?_
      intro A6 t6 c6 w6 HT6 HV6 HK6
      have HBs6 := Lib.hid (((HOB.out.below HB5.out).snoc (x := (x2, (A4, c4))) (HO5.out.wideE HB9.out.size)).grown hov HK6.out.2)
      have HB6 := Lib.hid (HB9.out.trans ((HB5.out.mono HB9.out.size).trans HK6.out.1))
      have n5 := (HB5.out.block X (lt_of_blk HX3.out)).trans HX3.out
      have n6 := (HK6.out.2 X (lt_of_blk n5) (ownV_ne hov n5 (by decide))).trans n5
      obtain ⟨a0, a1, a2, _⟩ := cells3E n6
      refine hK.out _ _ ⟨a0, a1, a2⟩ (fun hHeld => ?_)
      clear hK K
      try simp only [Act.put, List.setIfInBounds_toArray, List.set_cons_zero, List.set_cons_succ]
      refine wpAnyH_take (i := 11) (v := ?_) (by first | (simp only [List.getElem?_toArray, List.getElem?_cons_succ, List.getElem?_cons_zero]; rfl) | rfl) (by kernel_rfl) (by kernel_rfl) (by kernel_rfl) (fun _ _ _ h => h) (Or.inl ⟨by rfl, ?_⟩) (by assumption) ?_
      rotate_left 1
      · (intro w' hSw; (try dsimp only at hSw); go_simp; (try with_reducible rfl))
      try simp only [Act.put, List.setIfInBounds_toArray, List.set_cons_zero, List.set_cons_succ]
      refine wpAnyH_done (by kernel_rfl) ?_ _
      refine NoPanic.normal ?_
      go_wp2_with fail
      go_roundw
      case rel => exact ⟨i + 1, t6, A6, c6, by omega, by omega, rfl, by simp, Lib.hid (by rw [HT6.out, HT.out, evs_snoc, evs_snoc, List.map_append, HM.out, ← HX2.out]; rfl), HV6, by rw [HT6.out]; exact HBs6, HB6⟩
      case measure => simp [intOf]; omega
end Go.Proofs.Ytlmelfakmllinaa.Fl
