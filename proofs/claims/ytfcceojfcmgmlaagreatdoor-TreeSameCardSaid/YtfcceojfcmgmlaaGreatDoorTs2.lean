/-
  The law's Told: a unit of the program's as one of the document's.
-/
import Derived.Test.YtfcceojfcmgmlaaGreatDoorTs1
import Derived.BigRegion
namespace Go.Proofs.YtfcceojfcmgmlaaGreatDoor.Fl
open Go.RowKit Go.Shelf

/-- a unit of the program's, as it may be read -/
structure UnAt (w : World) (B : Nat) (v0 v1 : Value) (fs : List (Cls × Value)) (ss : List Src) : Prop where
  cl : ∃ A c, v0 = .slice A fs.length c ∧ fs.length ≤ c ∧ Rd w B A (ck_ fs)
  so : ∃ A c, v1 = .slice A ss.length c ∧ ss.length ≤ c ∧ Rd w B A (sk_ ss)
  fi : ∀ x ∈ fs, ∃ A c, x.2 = .slice A x.1.2.2.1.length c ∧ x.1.2.2.1.length ≤ c ∧ (A = none → x.1.2.2.1.length = 0) ∧ Rd w B A (cs_ x.1.2.2.1)
theorem UnAt.below {w w' : World} {B : Nat} {v0 v1 : Value} {fs : List (Cls × Value)} {ss : List Src} (h : UnAt w B v0 v1 fs ss) (hb : Below B w w') : UnAt w' B v0 v1 fs ss := by
  obtain ⟨⟨A, c, e1, e2, e3⟩, ⟨A', c', g1, g2, g3⟩, hf⟩ := h
  exact ⟨⟨A, c, e1, e2, e3.below hb (Nat.le_refl _)⟩, ⟨A', c', g1, g2, g3.below hb (Nat.le_refl _)⟩, fun x hx => (hf x hx).imp fun A ⟨c, h1, h2, h3, h4⟩ => ⟨c, h1, h2, h3, h4.below hb (Nat.le_refl _)⟩⟩
theorem own_rdZ {w : World} {base e size n c : Nat} {A : Option Addr} {xs : List Value} (h : w.ownsRow base e size (.slice A n c) n xs) : Rd w w.heap.size A xs ∧ n ≤ c ∧ (A = none → n = 0) := by
  rcases h.2 with ⟨e1, e2⟩ | ⟨g, cap, cur, e1, hb, hg, hc, _, _, ht⟩
  · injection e1 with e1 e3 e4
    subst e1
    have hx : xs = [] := by
      have := h.1
      rw [e2, Nat.zero_mul] at this
      exact List.eq_nil_of_length_eq_zero this
    rw [hx]
    exact ⟨.inl rfl, by omega, fun _ => e2⟩
  · injection e1 with e1 e3 e4
    subst e1
    refine ⟨.inr ⟨g, 0, rfl, lt_of_blk hg, fun j v hj => ?_⟩, by omega, fun h => by cases h⟩
    rw [Nat.zero_add]
    have hj' : cur.toList[j]? = some v := by
      rw [← ht, List.getElem?_take] at hj
      split at hj
      · exact hj
      · cases hj
    have hj2 : cur[j]? = some v := by rw [← Array.getElem?_toList]; exact hj'
    unfold World.cell?
    simp [hg, hj2]
section
variable {w0 w w1 w2 : World} {U : Nat} {fs : List (Cls × Value)} {ss : List Src} {A1 A2 A3 : Option Addr} {c1 c2 c3 : Nat}
end
theorem step_append_s {w : World} {base c : Nat} {A : Option Addr} {xs news : List (List UInt8)} {v : Value} {ops : Array Oper} {o : Oper} {a : Act} {K : Act → World → Prop} {Q : Exit → Act → World → Prop} {E : Prop} (hg : o.guard = none) (s x : Operand) (ho : o.op = .call { callee := .builtin .append, args := #[s, x], argTypes := #[22, 22] })
    (hs : a.eval s = v) (hx : a.eval x = .slice A news.length c) (hown : OwnS w base v xs) (hr : Rd w w.heap.size A (cs_ news)) (hA : A = none → news.length = 0) (hone : ∀ v ∈ cs_ news, v.oneCell' = true) (hl : xs.length ≤ 100000000) (hl2 : news.length ≤ 100000000) (hb : base ≤ w.heap.size)
    (h : ∀ A' ts c' w', Hid (ts = xs ++ news) → Hid (OwnS w' base (.slice A' ts.length c') ts) → Hid (Below base w w' ∧ (∀ k, k < w.heap.size → some k ≠ v.ownBlock → w'.heap[k]? = w.heap[k]?) ∧ ((Value.slice A' ts.length c').ownBlock = v.ownBlock ∨ (Value.slice A' ts.length c').ownBlock = some w.heap.size)) → K (a.put o.dst (.slice A' ts.length c')) w') :
    if Region.wanted o (yielded ops a.tmps) = true then Oper.wp Tryz.prog o a w K Q else E := by
  obtain ⟨i0, hi, hz0, hz1, hz2⟩ := info_parts strInfo
  refine step_append_rd (base := base) (size := 1) (bytes := 16) (n := xs.length) (m := news.length) (c := c) (v := v) (xs := cs_ xs) (news := cs_ news) hg s x ho Tryz.underlying22 hi hz0 hz1 hz2 rfl (by decide) hs hx hown hr (by rw [cs_len, Nat.mul_one]) hA hone (by unfold maxLen; omega) (by omega) hb ?_
  intro v' w' happ
  obtain ⟨A', c', rfl, _, _⟩ := happ.slice
  have e : xs.length + news.length = (xs ++ news).length := by simp
  have ho := happ.own
  have hat := happ.at_
  rw [e, show cs_ xs ++ cs_ news = cs_ (xs ++ news) from (cs_app _ _).symm] at ho
  rw [e] at hat ⊢
  exact h A' (xs ++ news) c' w' (Lib.hid rfl) (Lib.hid ho) (Lib.hid ⟨(Below.refl _ _).grown happ.grown hb (fun j hj => (World.ownsRow.lt hown j hj).1), happ.grown.block, hat⟩)
end Go.Proofs.YtfcceojfcmgmlaaGreatDoor.Fl

/-
  The law's Told: the walk.
-/
namespace Go.Proofs.YtfcceojfcmgmlaaGreatDoor.Fl
open Go.RowKit Go.Shelf

end Go.Proofs.YtfcceojfcmgmlaaGreatDoor.Fl

/-
  The document's All: nodes, each ahead of its kids.
-/
namespace Go.Proofs.YtfcceojfcmgmlaaGreatDoor.Fl
open Go.RowKit Go.Shelf

/-- a node in a row: what it is, where its kids stand and its names -/
abbrev NE := Nd × (Option Addr × Nat × Nat) × (Option Addr × Nat × Nat)
theorem nodeinfoR : (Tryz.prog.info? 49).map (fun i => (i.zero, i.size, i.bytes)) = some (some (.agg #[.int .i64 0, .string ⟨#[]⟩, .int .i64 0, .slice none 0 0, .slice none 0 0, .int .i64 0]), 6, 88) := by kernel_rfl
def ne6 (x : NE) : List Value := [.int .i64 x.1.kd, .string (mkB x.1.nm), .int .i64 x.1.nu, .slice x.2.1.1 x.2.1.2.1 x.2.1.2.2, .slice x.2.2.1 x.2.2.2.1 x.2.2.2.2, .int .i64 x.1.at_]
def ne_ (l : List NE) : List Value := l.flatMap ne6
theorem ne__len (l : List NE) : (ne_ l).length = l.length * 6 := by
  induction l with
  | nil => rfl
  | cons x l ih =>
    show (ne6 x ++ ne_ l).length = _
    rw [List.length_append, ih]
    simp [ne6]
    omega
theorem ne__app (l m : List NE) : ne_ (l ++ m) = ne_ l ++ ne_ m := List.flatMap_append
theorem ne__one (l : List NE) : ∀ u ∈ ne_ l, u.oneCell' = true := by
  intro u hu
  obtain ⟨x, _, h⟩ := List.mem_flatMap.1 hu
  simp only [ne6, List.mem_cons, List.not_mem_nil, or_false] at h
  rcases h with rfl | rfl | rfl | rfl | rfl | rfl <;> rfl
def OwnN (w : World) (base : Nat) (v : Value) (l : List NE) : Prop := w.ownsRow base 49 6 v l.length (ne_ l)
theorem OwnN.below {w w' : World} {base : Nat} {v : Value} {xs : List NE} (h : OwnN w base v xs) (hb : Below w.heap.size w w') : OwnN w' base v xs :=
  ⟨h.1, h.2.elim .inl fun ⟨g, cap, cur, hv, hbg, hg, r⟩ => .inr ⟨g, cap, cur, hv, hbg, (hb.block g (lt_of_blk hg)).trans hg, r⟩⟩
theorem OwnN.wide {w : World} {base base' : Nat} {v : Value} {xs : List NE} (h : OwnN w base v xs) (hb : base' ≤ base) : OwnN w base' v xs :=
  ⟨h.1, h.2.elim .inl fun ⟨g, cap, cur, hv, hbg, hg, r⟩ => .inr ⟨g, cap, cur, hv, Nat.le_trans hb hbg, hg, r⟩⟩
theorem wpList_append_n {w : World} {base c : Nat} {A : Option Addr} {xs news : List NE} {v : Value} {ops : Array Oper} {rest : List Oper} {o : Oper} {a : Act} {Q : Exit → Act → World → Prop} (hg : o.guard = none) (s x : Operand) (ho : o.op = .call { callee := .builtin .append, args := #[s, x], argTypes := #[23, 23] })
    (hs : a.eval s = v) (hx : a.eval x = .slice A news.length c) (hown : OwnN w base v xs) (hr : Rd w w.heap.size A (ne_ news)) (hA : A = none → news.length = 0) (hl : xs.length ≤ 100000000) (hl2 : news.length ≤ 100000000) (hb : base ≤ w.heap.size)
    (h : ∀ A' ts c' w', Hid (ts = xs ++ news) → Hid (OwnN w' base (.slice A' ts.length c') ts) → Hid (Below base w w' ∧ (∀ k, k < w.heap.size → some k ≠ v.ownBlock → w'.heap[k]? = w.heap[k]?)) → wpList Tryz.prog ops Q rest (a.put o.dst (.slice A' ts.length c')) w') :
    wpList Tryz.prog ops Q (o :: rest) a w := by
  obtain ⟨i0, hi, hz0, hz1, hz2⟩ := info_parts nodeinfoR
  refine wpList_append_rd (base := base) (size := 6) (bytes := 88) (n := xs.length) (m := news.length) (c := c) (v := v) (xs := ne_ xs) (news := ne_ news) hg s x ho Tryz.underlying23 hi hz0 hz1 hz2 rfl (by decide) hs hx hown hr (ne__len _) hA (ne__one _) (by unfold maxLen; omega) (by omega) hb ?_
  intro v' w' happ
  obtain ⟨A', c', rfl, _, _⟩ := happ.slice
  have e : xs.length + news.length = (xs ++ news).length := by simp
  have ho := happ.own
  rw [e, show ne_ xs ++ ne_ news = ne_ (xs ++ news) from (ne__app _ _).symm] at ho
  rw [e]
  exact h A' (xs ++ news) c' w' (Lib.hid rfl) (Lib.hid ho) (Lib.hid ⟨(Below.refl _ _).grown happ.grown hb (fun j hj => (World.ownsRow.lt hown j hj).1), happ.grown.block⟩)
theorem ne_one (w : World) (x : NE) : Rd (w.alloc (.cells (ne6 x).toArray 49)) (w.alloc (.cells (ne6 x).toArray 49)).heap.size (some ⟨w.heap.size, 0, none⟩) (ne_ [x]) := by
  have hg := heap_alloc_new w (.cells (ne6 x).toArray 49)
  refine .inr ⟨w.heap.size, 0, rfl, lt_of_blk hg, fun j v hj => ?_⟩
  unfold World.cell?
  have e : ne_ [x] = ne6 x := by simp [ne_]
  rw [e] at hj
  simp only [hg, Option.bind_some, Nat.zero_add]
  show (ne6 x).toArray[j]? = some v
  rw [List.getElem?_toArray]
  exact hj
/-- what All answers: a row of its own -/
def AllPostT (w : World) (l : List Nd) (e : Ending) (w' : World) : Prop :=
  Below w.heap.size w w' ∧ ∃ (es : List NE) (A : Option Addr) (c : Nat), e = .returned (.slice A es.length c) ∧ es.map (fun x => x.1) = allL l ∧ OwnN w' w.heap.size (.slice A es.length c) es
set_option maxRecDepth 100000 in
set_option maxHeartbeats 8000000 in
theorem rallN_any (n : Nat) : ∀ (xs : List Nd) (A : Option Addr) (c B : Nat) (w : World), cntL xs ≤ n → cntL xs ≤ 10000000 → NdsAt w (Lo B) A xs → B ≤ w.heap.size → xs.length ≤ c →
    Calls Tryz.prog 15 #[.slice A xs.length c] w (AllPostT w xs) := by
  induction n with
  | zero =>
    intro xs A c B w hn hs h hB hc
    have hx0 : xs = [] := by cases xs; rfl; rw [cntL, cntN_eq] at hn; omega
    subst hx0
    go_enter Tryz.func15, Tryz.ntmps15
    go_wp2_with fail
    go_loopw [3, 4] (fun u v wr => u = .slice none 0 0 ∧ v = .int .i64 0 ∧ w = wr) (fun _ v _ => 0)
    case atStart => exact ⟨rfl, rfl, rfl⟩
    case round =>
      obtain ⟨rfl, rfl, rfl⟩ := hrel
      go_wp2_with fail
      go_ret
      exact ⟨Below.refl _ _, [], none, 0, rfl, rfl, World.ownsRow_nil _ _ _ _⟩
  | succ n ih =>
    intro xs A c B w hn hs h hB hc
    have H1 := Lib.hid h
    have HL := Lib.hid (show (allL xs).length = cntL xs from allL_len _ xs (Nat.le_refl _))
    clear h
    have hxl := cnt_len xs
    go_enter Tryz.func15, Tryz.ntmps15
    go_wp2_with fail
    go_loopw [3, 4] (fun u v wr => ∃ (i : Nat) (es : List NE) (A2 : Option Addr) (c2 : Nat), i ≤ xs.length ∧ u = .slice A2 es.length c2 ∧ v = .int .i64 (i : Int) ∧ es.length ≤ 10000000 ∧ Hid (es.map (fun x => x.1) = allL (xs.take i)) ∧ Hid (OwnN wr w.heap.size (.slice A2 es.length c2) es) ∧ Hid (Below w.heap.size w wr)) (fun _ v _ => xs.length - (intOf v).toNat)
    case atStart => exact ⟨0, [], none, 0, Nat.zero_le _, rfl, rfl, by simp, Lib.hid rfl, Lib.hid (World.ownsRow_nil _ _ _ _), Lib.hid (Below.refl _ _)⟩
    case round =>
      obtain ⟨i, es, A2, c2, hi, rfl, rfl, hel, HM, HO, HB⟩ := hrel
      by_cases hlt : i < xs.length
      case neg =>
        have hq : ¬ ((i : Int) < (xs.length : Int)) := by omega
        have HE := Lib.hid (show es.map (fun x => x.1) = allL xs by have := HM.out; rwa [List.take_of_length_le (by omega)] at this)
        go_wp2_with fail
        go_ret
        exact ⟨HB.out, es, A2, c2, rfl, HE.out, HO.out⟩
      have hq : (i : Int) < (xs.length : Int) := by omega
      have hBw := Nat.le_trans hB HB.out.size
      have hck := cnt_kid hlt
      have hN1 := (H1.out.below (HB.out.mono hB) (Nat.le_refl _)).at_ hlt
      obtain ⟨b, o, rfl, hb, Ak, ck, An, cn, d0, d1, d2, d3, d4, d5, g1, g2, g3, g4, g5, g6, _, _⟩ := hN1
      have hbw : b < wr.heap.size := Nat.lt_of_lt_of_le hb hBw
      have HT := Lib.hid (show allL (xs.take (i + 1)) = allL (xs.take i) ++ xs[i] :: allL xs[i].kids by rw [List.take_succ_eq_append_getElem hlt, allL_app, allL, allN_eq, allL, List.append_nil])
      have hsum : (allL (xs.take i)).length + (1 + cntL xs[i].kids) ≤ cntL xs := by
        have h1 : allL xs = allL (xs.take (i + 1)) ++ allL (xs.drop (i + 1)) := by rw [← allL_app, List.take_append_drop]
        have h2 := HL.out
        rw [h1, HT.out, List.length_append, List.length_append, List.length_cons, allL_len _ xs[i].kids (Nat.le_refl _)] at h2
        omega
      have hes : es.length = (allL (xs.take i)).length := by rw [← HM.out, List.length_map]
      have HD := Lib.hid (fun (w' : World) (hb : Below w.heap.size wr w') => (g6.below (hb.mono hB) (Nat.le_refl _)))
      have HRC : Hid (∀ w', Below w.heap.size wr w' → Calls Tryz.prog 15 #[.slice Ak xs[i].kids.length ck] w' (AllPostT w' xs[i].kids)) :=
        Lib.hid (fun w' hb => ih _ Ak ck B w' (by omega) (by omega) (HD.out w' hb) (Nat.le_trans hBw hb.size) g1)
      have HK := Lib.hid (show es.length + (1 + cntL xs[i].kids) ≤ 10000000 by omega)
      clear g5 g6 ih hck HD hsum hes
      generalize xs[i] = x at *
      have hne := ne_one wr (x, (Ak, x.kids.length, ck), (An, x.ns.length, cn))
      have hbE : Below wr.heap.size wr (wr.alloc (.cells (ne6 (x, (Ak, x.kids.length, ck), (An, x.ns.length, cn))).toArray 49)) := (Below.refl _ _).alloc (Nat.le_refl _) _
      have ho2 := HO.out.below hbE
      have hk1 := HK.out
      go_upto_region 6 with (at_builtin; refine wpList_append_n (base := w.heap.size) (v := .slice A2 es.length c2) (xs := es) (news := [(x, (Ak, x.kids.length, ck), (An, x.ns.length, cn))]) rfl _ _ rfl rfl rfl ho2 hne (fun h => by cases h) (by omega) (by simp) (Nat.le_trans HB.out.size hbE.size) ?_
                             intro A3 t3 c3 w3 HT3 HO3 HB3)
      have HW3 := Lib.hid ((hbE.mono HB.out.size).trans HB3.out.1)
      have hc := HRC.out w3 HW3.out
      have hc3 : ∀ o, w3.cell? ⟨b, o, none⟩ = wr.cell? ⟨b, o, none⟩ := fun o => by unfold World.cell?; rw [HW3.out.block b (Nat.lt_of_lt_of_le hb hB)]
      have d3' := (hc3 _).trans d3
      have hbw3 : b < w3.heap.size := Nat.lt_of_lt_of_le hbw (Nat.le_trans hbE.size HB3.out.1.size)
      have hb3s : w.heap.size ≤ w3.heap.size := Nat.le_trans HB.out.size HW3.out.size
      have ht3 : Hid (t3.length = es.length + 1) := Lib.hid (by rw [HT3.out, List.length_append]; rfl)
      clear hne hbE ho2 d0 d1 d2 d3 d4 d5 hc3 HRC
      go_wp2_with (first
        | (go_at_call 15; refine hc.mono ?_; rintro e w4 ⟨hb4, es4, A4, c4, rfl, hm4, ho4⟩; clear hc
           obtain ⟨hr4, hl4, hA4⟩ := own_rdZ ho4
           have ho3 := HO3.out.below hb4
           have hm5 := Lib.hid hm4
           have hl5 : Hid (es4.length = cntL x.kids) := Lib.hid (by rw [← allL_len _ x.kids (Nat.le_refl _), ← hm4, List.length_map])
           have hbs4 := hb4.size)
        | (at_builtin; refine wpList_append_n (base := w.heap.size) (v := .slice A3 t3.length c3) (xs := t3) (news := es4) rfl _ _ rfl rfl rfl ho3 hr4 hA4 (by have := ht3.out; omega) (by have := hl5.out; omega) (by omega) ?_
           intro A5 t5 c5 w5 HT5 HO5 HB5))
      go_roundw
      case rel => exact ⟨i + 1, t5, A5, c5, by omega, rfl, by simp, by rw [HT5.out, List.length_append, ht3.out, hl5.out]; omega, Lib.hid (by rw [HT5.out, HT3.out, HT.out, List.map_append, List.map_append, HM.out, hm5.out, List.append_assoc]; rfl), HO5, Lib.hid (HB.out.trans (HW3.out.trans ((hb4.mono hb3s).trans HB5.out.1)))⟩
      case measure => simp [intOf]; omega
end Go.Proofs.YtfcceojfcmgmlaaGreatDoor.Fl

/-
  At most so many nodes: Few.
-/
namespace Go.Proofs.YtfcceojfcmgmlaaGreatDoor.Fl
open Go.RowKit Go.Shelf

mutual
def fewN : Nd → Nat → Nat → Nd × Nat
  | .mk k nm nu ks ns a, n, d => (.mk k (nm.take 5000) nu (fewL ks (n - 1) (d - 1)).1 (ns.take 9) a, (fewL ks (n - 1) (d - 1)).2)
def fewL : List Nd → Nat → Nat → List Nd × Nat
  | [], n, _ => ([], n)
  | x :: l, n, d => if n = 0 ∨ d = 0 then ([], n) else ((fewN x n d).1 :: (fewL l (fewN x n d).2 d).1, (fewL l (fewN x n d).2 d).2)
end
theorem fewN_eq (x : Nd) (n d : Nat) : fewN x n d = (.mk x.kd (x.nm.take 5000) x.nu (fewL x.kids (n - 1) (d - 1)).1 (x.ns.take 9) x.at_, (fewL x.kids (n - 1) (d - 1)).2) := by cases x; rfl
theorem fewL_stop (l : List Nd) (n d : Nat) (h : n = 0 ∨ d = 0) : fewL l n d = ([], n) := by
  cases l with
  | nil => rfl
  | cons x l => rw [fewL, if_pos h]
theorem fewL_cons (x : Nd) (l : List Nd) (n d : Nat) (h : ¬ (n = 0 ∨ d = 0)) : fewL (x :: l) n d = ((fewN x n d).1 :: (fewL l (fewN x n d).2 d).1, (fewL l (fewN x n d).2 d).2) := by rw [fewL, if_neg h]
mutual
theorem fewN_cnt : ∀ (x : Nd) (n d : Nat), n ≠ 0 → cntN (fewN x n d).1 + (fewN x n d).2 = n
  | .mk k nm nu ks ns a, n, d, h => by
    rw [fewN, cntN]
    have := fewL_cnt ks (n - 1) (d - 1)
    show 1 + cntL (fewL ks (n - 1) (d - 1)).1 + (fewL ks (n - 1) (d - 1)).2 = n
    omega
theorem fewL_cnt : ∀ (l : List Nd) (n d : Nat), cntL (fewL l n d).1 + (fewL l n d).2 = n
  | [], n, d => by rw [fewL, cntL]; omega
  | x :: l, n, d => by
    by_cases h : n = 0 ∨ d = 0
    · rw [fewL, if_pos h, cntL]; omega
    · rw [fewL, if_neg h, cntL]
      have h1 := fewN_cnt x n d (by omega)
      have h2 := fewL_cnt l (fewN x n d).2 d
      show cntN (fewN x n d).1 + cntL (fewL l (fewN x n d).2 d).1 + (fewL l (fewN x n d).2 d).2 = n
      omega
end
/-- what stands in memory beside one block has not changed -/
structure OvG (R : Nat) (w w' : World) : Prop where
  os : w'.os = w.os
  tape : w'.tape = w.tape
  output : w'.output = w.output
  size : w.heap.size ≤ w'.heap.size
  block : ∀ k, k < w.heap.size → k ≠ R → w'.heap[k]? = w.heap[k]?
theorem OvG.refl (R : Nat) (w : World) : OvG R w w := ⟨rfl, rfl, rfl, Nat.le_refl _, fun _ _ _ => rfl⟩
theorem OvG.trans {R : Nat} {w w1 w2 : World} (h : OvG R w w1) (k : OvG R w1 w2) : OvG R w w2 :=
  ⟨k.os.trans h.os, k.tape.trans h.tape, k.output.trans h.output, Nat.le_trans h.size k.size, fun j hj hn => (k.block j (Nat.lt_of_lt_of_le hj h.size) hn).trans (h.block j hj hn)⟩
theorem OvG.of_below {R : Nat} {w w' : World} (h : Below w.heap.size w w') : OvG R w w' := ⟨h.os, h.tape, h.output, h.size, fun k hk _ => h.block k hk⟩
theorem OvG.set {R : Nat} (w : World) (k : Nat) (v : Value) : OvG R w (w.setCell ⟨R, k, none⟩ v) :=
  ⟨rfl, rfl, rfl, Nat.le_of_eq (by simp [World.setCell]), fun j _ hn => Below.heap_setCell _ _ _ _ hn⟩
/-- a store into a block that is new -/
theorem OvG.new {R X : Nat} {w w1 : World} (h : OvG R w w1) (hX : w.heap.size ≤ X) (k : Nat) (v : Value) : OvG R w (w1.setCell ⟨X, k, none⟩ v) :=
  ⟨h.os, h.tape, h.output, Nat.le_trans h.size (Nat.le_of_eq (by simp [World.setCell])), fun j hj hn => (Below.heap_setCell _ ⟨X, k, none⟩ _ j (show j ≠ X by omega)).trans (h.block j hj hn)⟩
theorem OvG.alloc {R : Nat} {w w1 : World} (h : OvG R w w1) (o : Obj) : OvG R w (w1.alloc o) :=
  h.trans (OvG.of_below ((Below.refl _ _).alloc (Nat.le_refl _) o))
theorem OvG.below {R B : Nat} {w w' : World} (h : OvG R w w') (hB : B ≤ w.heap.size) (hR : B ≤ R) : Below B w w' :=
  ⟨h.os, h.tape, h.output, h.size, fun k hk => h.block k (by omega) (by omega)⟩
theorem OvG.own {R base : Nat} {w w' : World} {v : Value} {l : List NE} (h : OvG R w w') (ho : OwnN w base v l) (hR : R < base) : OwnN w' base v l :=
  ⟨ho.1, ho.2.elim .inl fun ⟨g, cap, cur, hv, hbg, hg, r⟩ => .inr ⟨g, cap, cur, hv, hbg, (h.block g (lt_of_blk hg) (by omega)).trans hg, r⟩⟩
/-- what a node of a row leads to -/
structure Ent (w : World) (P : Nat → Prop) (x : NE) : Prop where
  l1 : x.2.1.2.1 = x.1.kids.length
  l2 : x.2.2.2.1 = x.1.ns.length
  c1 : x.1.kids.length ≤ x.2.1.2.2
  c2 : x.1.ns.length ≤ x.2.2.2.2
  m1 : x.2.1.2.2 ≤ 9223372036854775807
  m2 : x.2.2.2.2 ≤ 9223372036854775807
  ks : NdsAt w P x.2.1.1 x.1.kids
  ns : SrAt w P x.2.2.1 x.1.ns
  n1 : x.2.1.1 = none → x.1.kids = []
  n2 : x.2.2.1 = none → x.1.ns = []
theorem Ent.keep {w w' : World} {P P' : Nat → Prop} {x : NE} (h : Ent w P x) (hk : ∀ b, P b → w'.heap[b]? = w.heap[b]? ∧ P' b) : Ent w' P' x :=
  ⟨h.l1, h.l2, h.c1, h.c2, h.m1, h.m2, h.ks.keep hk, h.ns.keep hk, h.n1, h.n2⟩
theorem ne__get (l : List NE) (i : Nat) (h : i < l.length) (j : Nat) (hj : j < 6) : (ne_ l)[i * 6 + j]? = (ne6 l[i])[j]? := by
  induction l generalizing i with
  | nil => cases h
  | cons x l ih =>
    show (ne6 x ++ ne_ l)[_]? = _
    cases i with
    | zero =>
      rw [Nat.zero_mul, Nat.zero_add, List.getElem?_append_left (by simp [ne6]; omega)]
      rfl
    | succ i =>
      rw [List.getElem?_append_right (by simp [ne6]; omega)]
      have e : (i + 1) * 6 + j - (ne6 x).length = i * 6 + j := by simp [ne6]; omega
      rw [e, ih i (by simpa using h)]
      rfl
theorem nds_of_row {w : World} {P : Nat → Prop} {B : Nat} {A : Option Addr} {l : List NE} (hr : Rd w B A (ne_ l)) (hP : ∀ a, A = some a → P a.block) (he : ∀ x ∈ l, Ent w P x) : NdsAt w P A (l.map fun x => x.1) := by
  rcases hr with h | ⟨b, off, rfl, hb, hc⟩
  · have : l = [] := by
      cases l with
      | nil => rfl
      | cons x l => exact absurd h (by show ne6 x ++ ne_ l ≠ []; simp [ne6])
    subst this
    exact .inl rfl
  · refine .inr ⟨b, off, rfl, hP _ rfl, fun i hi => ?_⟩
    rw [List.length_map] at hi
    rw [List.getElem_map]
    have hx := he _ (List.getElem_mem hi)
    have hg := fun (j : Nat) (hj : j < 6) (v : Value) (hv : (ne6 l[i])[j]? = some v) => hc (i * 6 + j) v ((ne__get l i hi j hj).trans hv)
    generalize l[i] = x at *
    have e0 := hg 0 (by omega) _ rfl
    have e1 := hg 1 (by omega) _ rfl
    have e2 := hg 2 (by omega) _ rfl
    have e3 := hg 3 (by omega) _ rfl
    have e4 := hg 4 (by omega) _ rfl
    have e5 := hg 5 (by omega) _ rfl
    rw [hx.l1] at e3
    rw [hx.l2] at e4
    obtain ⟨⟨kd, nm, nu, ks, ns, at_⟩, ⟨Ak, k1, k2⟩, An, n1, n2⟩ := x
    have hks := hx.ks
    show NdAt w P b (off + i * 6) (.mk kd nm nu ks ns at_)
    by_cases hk0 : ks = []
    · exact .mk Ak k2 An n2 0 0 (hP _ rfl) e0 e1 e2 e3 e4 e5 hx.c1 hx.c2 hx.m1 hx.m2 hx.ns (fun h => absurd hk0 h) (fun i hi => by rw [hk0] at hi; cases hi) hx.n1 hx.n2
    · rcases hks with h | ⟨bk, ok, h1, h2, h3⟩
      · exact absurd h hk0
      · exact .mk Ak k2 An n2 bk ok (hP _ rfl) e0 e1 e2 e3 e4 e5 hx.c1 hx.c2 hx.m1 hx.m2 hx.ns (fun _ => ⟨h1, h2⟩) h3 hx.n1 hx.n2
/-- an argument's blocks, or new ones -/
def Nw (B lo hi : Nat) : Nat → Prop := fun k => k < B ∨ (lo ≤ k ∧ k < hi)
/-- new ones but for the row's own -/
def Nx (B lo hi : Nat) (v : Value) : Nat → Prop := fun k => k < B ∨ (lo ≤ k ∧ k < hi ∧ v.ownBlock ≠ some k)
structure FewI (w0 w : World) (B g : Nat) (es : List NE) (v : Value) (m : Nat) : Prop where
  own : OwnN w w0.heap.size v es
  cell : w.heap[g]? = some (.cells #[.int .i64 (m : Int)] 3 (0, 0))
  ov : OvG g w0 w
  ent : ∀ x ∈ es, Ent w (Nx B w0.heap.size w.heap.size v) x
theorem FewI.more {w0 wr w6 w7 : World} {B g m m' : Nat} {es : List NE} {v v' : Value} {x : NE} (h : FewI w0 wr B g es v m) (hB : B ≤ g) (hgw : g < w0.heap.size) (ho : OvG g wr w6) (hx : Ent w6 (Nw B wr.heap.size w6.heap.size) x)
    (hc : w6.heap[g]? = some (.cells #[.int .i64 (m' : Int)] 3 (0, 0))) (hown : OwnN w7 w0.heap.size v' (es ++ [x])) (hgr : w6.grownBy w7 v.ownBlock) (hat : v'.ownBlock = v.ownBlock ∨ v'.ownBlock = some w6.heap.size) : FewI w0 w7 B g (es ++ [x]) v' m' := by
  have hlo := World.ownsRow.lt h.own
  have hkeep : ∀ k, k < w6.heap.size → some k ≠ v.ownBlock → w7.heap[k]? = w6.heap[k]? := hgr.block
  have hgne : some g ≠ v.ownBlock := fun e => by have := hlo g e.symm; omega
  refine ⟨hown, (hkeep g (lt_of_blk hc) hgne).trans hc, ⟨hgr.os.trans (h.ov.trans ho).os, hgr.tape.trans (h.ov.trans ho).tape, hgr.output.trans (h.ov.trans ho).output, Nat.le_trans (h.ov.trans ho).size hgr.size, fun k hk hn => ?_⟩, fun y hy => ?_⟩
  · exact (hkeep k (Nat.lt_of_lt_of_le hk (h.ov.trans ho).size) (fun e => by have := hlo k e.symm; omega)).trans ((h.ov.trans ho).block k hk hn)
  · rcases List.mem_append.1 hy with hy | hy
    · refine (h.ent y hy).keep fun k hk => ?_
      have hk1 : k < wr.heap.size ∧ some k ≠ v.ownBlock ∧ k ≠ g := by
        rcases hk with hk | ⟨a, b, c⟩
        · have := h.ov.size
          exact ⟨by omega, fun e => by have := hlo k e.symm; omega, by omega⟩
        · exact ⟨b, fun e => c e.symm, by omega⟩
      have hk2 : k < w6.heap.size := Nat.lt_of_lt_of_le hk1.1 ho.size
      refine ⟨(hkeep k hk2 hk1.2.1).trans (ho.block k hk1.1 hk1.2.2), ?_⟩
      rcases hk with hk | ⟨a, b, c⟩
      · exact .inl hk
      · refine .inr ⟨a, Nat.lt_of_lt_of_le hk2 hgr.size, ?_⟩
        rcases hat with e | e <;> rw [e]
        · exact c
        · intro e; injection e with e; omega
    · rw [List.mem_singleton.1 hy]
      refine hx.keep fun k hk => ?_
      have hs := h.ov.size
      have hk1 : k < w6.heap.size ∧ some k ≠ v.ownBlock := by
        rcases hk with hk | ⟨a, b⟩
        · have := ho.size
          exact ⟨by omega, fun e => by have := hlo k e.symm; omega⟩
        · exact ⟨b, fun e => by have := hlo k e.symm; omega⟩
      refine ⟨hkeep k hk1.1 hk1.2, ?_⟩
      rcases hk with hk | ⟨a, b⟩
      · exact .inl hk
      · refine .inr ⟨by omega, Nat.lt_of_lt_of_le b hgr.size, ?_⟩
        rcases hat with e | e <;> rw [e]
        · intro e; have := hlo k e; omega
        · intro e; injection e with e; omega
def FewT (w0 : World) (B g : Nat) (r : List Nd × Nat) (e : Ending) (w : World) : Prop :=
  OvG g w0 w ∧ w.heap[g]? = some (.cells #[.int .i64 (r.2 : Int)] 3 (0, 0)) ∧ ∃ A c, e = .returned (.slice A r.1.length c) ∧ r.1.length ≤ c ∧ c ≤ 9223372036854775807 ∧ NdsAt w (Nw B w0.heap.size w.heap.size) A r.1 ∧ (A = none → r.1 = [])
theorem FewI.fin {w0 w : World} {B g c m : Nat} {es : List NE} {A : Option Addr} (h : FewI w0 w B g es (.slice A es.length c) m) : FewT w0 B g (es.map fun x => x.1, m) (.returned (.slice A es.length c)) w := by
  have hlo := World.ownsRow.lt h.own
  obtain ⟨hr, hl, hA⟩ := own_rdZ h.own
  have hcap : c ≤ 9223372036854775807 := by
    rcases h.own.2 with ⟨e, _⟩ | ⟨_, cap, _, e, _, _, _, hm, _⟩
    · injection e with _ _ e; omega
    · injection e with _ _ e; unfold maxLen at hm; omega
  refine ⟨h.ov, h.cell, A, c, by simp, by simpa using hl, hcap, nds_of_row hr (fun a e => ?_) (fun x hx => (h.ent x hx).keep fun k hk => ⟨rfl, ?_⟩), fun e => ?_⟩
  · subst e; have := hlo a.block rfl; exact .inr this
  · rcases hk with hk | ⟨a, b, _⟩
    · exact .inl hk
    · exact .inr ⟨a, b⟩
  · have := hA e
    cases es with
    | nil => rfl
    | cons x l => cases this
end Go.Proofs.YtfcceojfcmgmlaaGreatDoor.Fl

/-
  At most so many nodes: the law's Few, walked.
-/
namespace Go.Proofs.YtfcceojfcmgmlaaGreatDoor.Fl
open Go.RowKit Go.Shelf

theorem FewI.step {w0 wr w1 : World} {B g m m' : Nat} {es : List NE} {v : Value} (h : FewI w0 wr B g es v m) (hB : B ≤ g) (hgw : g < w0.heap.size) (ho : OvG g wr w1) (hc : w1.heap[g]? = some (.cells #[.int .i64 (m' : Int)] 3 (0, 0))) : FewI w0 w1 B g es v m' :=
  ⟨ho.own h.own hgw, hc, h.ov.trans ho, fun y hy => (h.ent y hy).keep fun k hk => by
    have hs := h.ov.size
    have hs2 := ho.size
    rcases hk with hk | ⟨a, b, c⟩
    · exact ⟨ho.block k (by omega) (by omega), .inl hk⟩
    · exact ⟨ho.block k b (by omega), .inr ⟨a, by omega, c⟩⟩⟩
theorem SrAt.take {w : World} {P : Nat → Prop} {A : Option Addr} {l : List (List UInt8)} (h : SrAt w P A l) (k : Nat) : SrAt w P A (l.take k) := by
  rcases h with h | ⟨b, off, rfl, hb, hc⟩
  · rw [h]; exact .inl (by simp)
  · refine .inr ⟨b, off, rfl, hb, fun j v hj => hc j v ?_⟩
    simp only [cs_, List.getElem?_map, List.getElem?_take] at hj ⊢
    split at hj
    · exact hj
    · simp at hj
theorem cells1T {w : World} {g : Nat} {v : Value} {T : TypeId} (h : w.heap[g]? = some (.cells #[v] T (0, 0))) : w.cell? ⟨g, 0, none⟩ = some v ∧ ∀ k, w.frozen? ⟨g, k, none⟩ = false :=
  ⟨cell_of_row _ _ _ _ _ _ h, fun _ => frozen_of_row _ _ _ _ _ h⟩
theorem wpList_append_f {w : World} {base c : Nat} {A : Option Addr} {xs news : List NE} {v : Value} {ops : Array Oper} {rest : List Oper} {o : Oper} {a : Act} {Q : Exit → Act → World → Prop} (hg : o.guard = none) (s x : Operand) (ho : o.op = .call { callee := .builtin .append, args := #[s, x], argTypes := #[23, 23] })
    (hs : a.eval s = v) (hx : a.eval x = .slice A news.length c) (hown : OwnN w base v xs) (hr : Rd w w.heap.size A (ne_ news)) (hA : A = none → news.length = 0) (hl : xs.length ≤ 100000000) (hl2 : news.length ≤ 100000000) (hb : base ≤ w.heap.size)
    (h : ∀ A' ts c' w', Hid (ts = xs ++ news) → Hid (OwnN w' base (.slice A' ts.length c') ts) → Hid (w.grownBy w' v.ownBlock ∧ ((Value.slice A' ts.length c').ownBlock = v.ownBlock ∨ (Value.slice A' ts.length c').ownBlock = some w.heap.size)) → wpList Tryz.prog ops Q rest (a.put o.dst (.slice A' ts.length c')) w') :
    wpList Tryz.prog ops Q (o :: rest) a w := by
  obtain ⟨i0, hi, hz0, hz1, hz2⟩ := info_parts nodeinfoR
  refine wpList_append_rd (base := base) (size := 6) (bytes := 88) (n := xs.length) (m := news.length) (c := c) (v := v) (xs := ne_ xs) (news := ne_ news) hg s x ho Tryz.underlying23 hi hz0 hz1 hz2 rfl (by decide) hs hx hown hr (ne__len _) hA (ne__one _) (by unfold maxLen; omega) (by omega) hb ?_
  intro v' w' happ
  obtain ⟨A', c', rfl, _, _⟩ := happ.slice
  have e : xs.length + news.length = (xs ++ news).length := by simp
  have ho := happ.own
  have hat := happ.at_
  rw [e, show ne_ xs ++ ne_ news = ne_ (xs ++ news) from (ne__app _ _).symm] at ho
  rw [e] at hat ⊢
  exact h A' (xs ++ news) c' w' (Lib.hid rfl) (Lib.hid ho) (Lib.hid ⟨happ.grown, hat⟩)
set_option maxRecDepth 100000 in
set_option maxHeartbeats 8000000 in
theorem rfew_any (d : Nat) : ∀ (xs : List Nd) (A : Option Addr) (c B g n : Nat) (w : World), d ≤ 60 → n ≤ 200 → NdsAt w (Lo B) A xs → B ≤ g → w.heap[g]? = some (.cells #[.int .i64 (n : Int)] 3 (0, 0)) → xs.length ≤ c → c ≤ 9223372036854775807 →
    Calls Tryz.prog 23 #[.slice A xs.length c, .pointer (some ⟨g, 0, none⟩), .int .i64 (d : Int)] w (FewT w B g (fewL xs n d)) := by
  induction d using Nat.strongRecOn with
  | _ d ih =>
    intro xs A c B g n w hd hn h hB hg hc hc2
    have H1 := Lib.hid h
    have HG := Lib.hid hg
    have hgw := lt_of_blk hg
    clear h hg
    go_enter Tryz.func23, Tryz.ntmps23
    go_wp2_with fail
    go_loopw [7, 12] (fun u v wr => ∃ (i : Nat) (es : List NE) (A2 : Option Addr) (c2 m : Nat), i ≤ xs.length ∧ u = .slice A2 es.length c2 ∧ v = .int .i64 (i : Int) ∧ es.length + m ≤ 200 ∧ Hid (FewI w wr B g es (.slice A2 es.length c2) m) ∧ Hid (fewL xs n d = (es.map (fun x => x.1) ++ (fewL (xs.drop i) m d).1, (fewL (xs.drop i) m d).2))) (fun _ v _ => xs.length - (intOf v).toNat)
    case atStart => exact ⟨0, [], none, 0, n, Nat.zero_le _, rfl, rfl, by simpa using hn, Lib.hid ⟨World.ownsRow_nil _ _ _ _, HG.out, OvG.refl _ _, fun x hx => by cases hx⟩, Lib.hid rfl⟩
    case round =>
      obtain ⟨i, es, A2, c2, m, hi, rfl, rfl, hem, HF, HM⟩ := hrel
      by_cases hlt : i < xs.length
      case neg =>
        have hq : ¬ ((i : Int) < (xs.length : Int)) := by omega
        have HE := Lib.hid (show fewL xs n d = (es.map fun x => x.1, m) by have := HM.out; rw [List.drop_eq_nil_of_le (by omega), fewL, List.append_nil] at this; exact this)
        go_wp2_with fail
        go_ret
        rw [HE.out]
        exact HF.out.fin
      have hq : (i : Int) < (xs.length : Int) := by omega
      have hws := HF.out.ov.size
      have hN1 := (H1.out.below (HF.out.ov.below (by omega) hB) (Nat.le_refl _)).at_ hlt
      obtain ⟨b, o, rfl, hb, Ak, ck, An, cn, d0, d1, d2, d3, d4, d5, g1, g2, g3, g4, g5, g6, g7, g8⟩ := hN1
      have hb : b < B := hb
      have hbw : b < wr.heap.size := by omega
      have hdr : xs.drop i = xs[i] :: xs.drop (i + 1) := List.drop_eq_getElem_cons hlt
      generalize xs[i] = x at *
      obtain ⟨X, hX⟩ : ∃ X, wr.heap.size = X := ⟨_, rfl⟩
      obtain ⟨W1, hW1⟩ : ∃ W1, wr.alloc (.cells #[.int .i64 x.kd, .string (mkB x.nm), .int .i64 x.nu, .slice Ak x.kids.length ck, .slice An x.ns.length cn, .int .i64 x.at_] 49) = W1 := ⟨_, rfl⟩
      have hov1 : OvG g wr W1 := by rw [← hW1]; exact (OvG.refl _ _).alloc _
      have hg1 : W1.heap[g]? = some (.cells #[.int .i64 (m : Int)] 3 (0, 0)) := by
        rw [← hW1]; exact (Below.heap_alloc _ _ _ (lt_of_blk HF.out.cell)).trans HF.out.cell
      have hx1 : W1.heap[X]? = some (.cells #[.int .i64 x.kd, .string (mkB x.nm), .int .i64 x.nu, .slice Ak x.kids.length ck, .slice An x.ns.length cn, .int .i64 x.at_] 49 (0, 0)) := by
        rw [← hW1, ← hX]; exact heap_alloc_new wr _
      have HX1 := Lib.hid (And.intro hx1 (And.intro hg1 hov1))
      have HS := Lib.hid (And.intro g5 (And.intro g6 (And.intro g7 g8)))
      clear g5 g6 g7 g8 hx1 hg1 hov1
      go_upto_region 5 with fail
      try simp only [hW1, hX]
      have HW := Lib.hid hX
      clear hW1 hX d0 d1 d2 d3 d4 d5 hbw
      have f1 := cells1T HX1.out.2.1
      have l1 := lt_of_blk HX1.out.2.1
      by_cases hst : m = 0 ∨ d = 0
      case pos =>
        have HE := Lib.hid (show fewL xs n d = (es.map fun x => x.1, m) by have := HM.out; rw [fewL_stop _ _ _ hst, List.append_nil] at this; exact this)
        have HF1 := Lib.hid (HF.out.step hB hgw HX1.out.2.2 HX1.out.2.1)
        rcases hst with h0 | h0
        · have hq2 : (m : Int) ≤ 0 := by omega
          go_wp2_with fail
          go_ret
          rw [HE.out]
          exact HF1.out.fin
        · have hq2 : (d : Int) ≤ 0 := by omega
          have HE0 := Lib.hid (show fewL xs n 0 = (es.map fun x => x.1, m) by rw [← h0]; exact HE.out)
          by_cases hm0 : (m : Int) ≤ 0
          · go_wp2_with fail
            go_ret
            first | rw [HE0.out] | rw [HE.out]
            exact HF1.out.fin
          · go_wp2_with fail
            go_ret
            first | rw [HE0.out] | rw [HE.out]
            exact HF1.out.fin
      have hm1 : 1 ≤ m := by omega
      have hd1 : 1 ≤ d := by omega
      have hq3 : ¬ (m : Int) ≤ 0 := by omega
      have hq4 : ¬ (d : Int) ≤ 0 := by omega
      go_upto_region 7 with fail
      have em : ((m : Int) - 1) = ((m - 1 : Nat) : Int) := by omega
      have hg2 := heap_setCell_same W1 g 0 _ _ (.int .i64 ((m - 1 : Nat) : Int)) HX1.out.2.1
      have hx2 := (Below.heap_setCell W1 ⟨g, 0, none⟩ (.int .i64 ((m - 1 : Nat) : Int)) X (show X ≠ g by have := HW.out; omega)).trans HX1.out.1
      have ho2 := HX1.out.2.2.trans (OvG.set W1 0 (.int .i64 ((m - 1 : Nat) : Int)))
      rw [em]
      generalize W1.setCell ⟨g, 0, none⟩ (.int .i64 ((m - 1 : Nat) : Int)) = W2 at *
      have HX2 := Lib.hid (And.intro hx2 (And.intro hg2 ho2))
      have HWm := Lib.hid em
      clear hx2 hg2 ho2 f1 l1 HX1 em
      have f2 := cells6T HX2.out.1
      have l2 := lt_of_blk HX2.out.1
      go_upto_if 32 with fail
      go_cut [] (fun wx => ∃ nm2, Hid (nm2 = x.nm.take 5000) ∧ Hid (wx.heap[X]? = some (.cells #[.int .i64 x.kd, .string (mkB nm2), .int .i64 x.nu, .slice Ak x.kids.length ck, .slice An x.ns.length cn, .int .i64 x.at_] 49 (0, 0)) ∧ wx.heap[g]? = some (.cells #[.int .i64 ((m - 1 : Nat) : Int)] 3 (0, 0)) ∧ OvG g wr wx))
      case first =>
        have hzt : ((mkB x.nm).size : Int) = (x.nm.length : Int) := by rw [mkL_size]
        have hext : (mkB x.nm).extract 0 5000 = mkB (x.nm.take 5000) := by
          apply ByteArray.ext
          simp
        by_cases h8 : 5000 < x.nm.length
        · have h8i : (5000 : Int) < (x.nm.length : Int) := by omega
          have h8j : (5000 : Int) ≤ (x.nm.length : Int) := by omega
          go_wp2_with fail
          go_meet
          try rw [hext]
          exact ⟨x.nm.take 5000, Lib.hid rfl, Lib.hid ⟨heap_setCell_same _ X 1 _ _ _ HX2.out.1, (Below.heap_setCell W2 ⟨X, 1, none⟩ _ g (show g ≠ X by have := HW.out; omega)).trans HX2.out.2.1, HX2.out.2.2.new (Nat.le_of_eq HW.out) 1 _⟩⟩
        · have h8i : ¬ (5000 : Int) < (x.nm.length : Int) := by omega
          go_wp2_with fail
          go_meet
          exact ⟨x.nm, Lib.hid (by rw [List.take_of_length_le (by omega)]), HX2⟩
      case rest =>
      obtain ⟨nm2, HNM, HX3⟩ := hcut
      clear f2 l2 HX2
      have f3 := cells6T HX3.out.1
      have l3 := lt_of_blk HX3.out.1
      go_upto_if 40 with fail
      go_cut [] (fun wx => ∃ ns2 : List (List UInt8), Hid (ns2 = x.ns.take 9) ∧ Hid (wx.heap[X]? = some (.cells #[.int .i64 x.kd, .string (mkB nm2), .int .i64 x.nu, .slice Ak x.kids.length ck, .slice An ns2.length cn, .int .i64 x.at_] 49 (0, 0)) ∧ wx.heap[g]? = some (.cells #[.int .i64 ((m - 1 : Nat) : Int)] 3 (0, 0)) ∧ OvG g wr wx))
      case first =>
        by_cases h8 : 9 < x.ns.length
        · have h8i : (9 : Int) < (x.ns.length : Int) := by omega
          have h9 : (x.ns.take 9).length = 9 := by rw [List.length_take]; omega
          obtain ⟨a0, ha0⟩ : ∃ a0, An = some a0 := by
            cases hAn : An with
            | none => have := HS.out.2.2.2 hAn; rw [this] at h8; cases h8
            | some a0 => exact ⟨a0, rfl⟩
          subst ha0
          go_wp2_with fail
          go_meet
          exact ⟨x.ns.take 9, Lib.hid rfl, by rw [h9]; exact Lib.hid ⟨heap_setCell_same _ X 4 _ _ _ HX3.out.1, (Below.heap_setCell wc ⟨X, 4, none⟩ _ g (show g ≠ X by have := HW.out; omega)).trans HX3.out.2.1, HX3.out.2.2.new (Nat.le_of_eq HW.out) 4 _⟩⟩
        · have h8i : ¬ (9 : Int) < (x.ns.length : Int) := by omega
          go_wp2_with fail
          go_meet
          exact ⟨x.ns, Lib.hid (by rw [List.take_of_length_le (by omega)]), HX3⟩
      case rest =>
      clear f3 l3
      obtain ⟨ns2, HNS, HX4⟩ := hcut
      clear HX3
      have hc := ih (d - 1) (by omega) x.kids Ak ck B g (m - 1) wc (by omega) (by omega) (HS.out.2.1.below (HX4.out.2.2.below (by omega) hB) (Nat.le_refl _)) hB HX4.out.2.1 g1 g3
      have ed : ((d : Int) - 1) = ((d - 1 : Nat) : Int) := by omega
      have hrc := fewL_cnt x.kids (m - 1) (d - 1)
      have HM1 := Lib.hid (show fewL xs n d = ((es ++ [((Nd.mk x.kd nm2 x.nu (fewL x.kids (m - 1) (d - 1)).1 ns2 x.at_, (none, 0, 0), (none, 0, 0)) : NE)]).map (fun x => x.1) ++ (fewL (xs.drop (i + 1)) (fewL x.kids (m - 1) (d - 1)).2 d).1, (fewL (xs.drop (i + 1)) (fewL x.kids (m - 1) (d - 1)).2 d).2) by
        rw [HM.out, hdr, fewL_cons _ _ _ _ hst, fewN_eq, HNM.out, HNS.out, List.map_append, List.append_assoc]; rfl)
      obtain ⟨r, hr⟩ : ∃ r, fewL x.kids (m - 1) (d - 1) = r := ⟨_, rfl⟩
      rw [hr] at hc hrc HM1
      have f4 := cells6T HX4.out.1
      have l4 := lt_of_blk HX4.out.1
      have hXg : X ≠ g := by have := HW.out; omega
      have hBX : B ≤ X := by have := HW.out; omega
      go_upto_region 12 with (go_at_call 23; refine hc.mono ?_; rintro e w5 ⟨ho5, hc5, A5, c5, rfl, hl5, hm5, hn5, hz5⟩; clear hc; have hx5 := (ho5.block X l4 hXg).trans HX4.out.1; have f5 := cells6T hx5; have l5 := lt_of_blk hx5)
      have hx6 := heap_setCell_same w5 X 3 _ _ (.slice A5 r.1.length c5) hx5
      have hc6 := (Below.heap_setCell w5 ⟨X, 3, none⟩ (.slice A5 r.1.length c5) g (show g ≠ X from hXg.symm)).trans hc5
      have ho6 := (HX4.out.2.2.trans ho5).new (Nat.le_of_eq HW.out) 3 (.slice A5 r.1.length c5)
      have hk6 : ∀ k, k ≠ X → (w5.setCell ⟨X, 3, none⟩ (.slice A5 r.1.length c5)).heap[k]? = w5.heap[k]? := fun k hk => Below.heap_setCell w5 ⟨X, 3, none⟩ _ k hk
      have hs6 : (w5.setCell ⟨X, 3, none⟩ (.slice A5 r.1.length c5)).heap.size = w5.heap.size := by simp [World.setCell]
      generalize w5.setCell ⟨X, 3, none⟩ (.slice A5 r.1.length c5) = w6 at *
      clear f4 f5 l5 hdr
      have f6 := cells6T hx6
      have l6 := lt_of_blk hx6
      have hyr0 := ne_one w6 (Nd.mk x.kd nm2 x.nu r.1 ns2 x.at_, (A5, r.1.length, c5), (An, ns2.length, cn))
      obtain ⟨y, hy⟩ : ∃ y : NE, y = (Nd.mk x.kd nm2 x.nu r.1 ns2 x.at_, (A5, r.1.length, c5), (An, ns2.length, cn)) := ⟨_, rfl⟩
      have hal := (OvG.refl g w6).alloc (.cells (ne6 (Nd.mk x.kd nm2 x.nu r.1 ns2 x.at_, (A5, r.1.length, c5), (An, ns2.length, cn))).toArray 49)
      have HOWN := Lib.hid ((ho6.trans hal).own HF.out.own hgw)
      have HEN : Hid (Ent (w6.alloc (.cells (ne6 (Nd.mk x.kd nm2 x.nu r.1 ns2 x.at_, (A5, r.1.length, c5), (An, ns2.length, cn))).toArray 49)) (Nw B wr.heap.size (w6.alloc (.cells (ne6 (Nd.mk x.kd nm2 x.nu r.1 ns2 x.at_, (A5, r.1.length, c5), (An, ns2.length, cn))).toArray 49)).heap.size) y) := by
        have hsz := hal.size
        rw [hy]
        refine Lib.hid ⟨rfl, rfl, hl5, ?_, hm5, g4, hn5.keep fun k hk => ?_, ?_, hz5, ?_⟩
        · show ns2.length ≤ cn
          rw [HNS.out, List.length_take]; omega
        · have h1 := ho5.size
          have h2 := HX4.out.2.2.size
          have h3 := HW.out
          rcases hk with hk | ⟨a1, a2⟩
          · exact ⟨(hal.block k (by omega) (by omega)).trans (hk6 k (by omega)), .inl hk⟩
          · have hkg : k ≠ g := by omega
            exact ⟨(hal.block k (by omega) hkg).trans (hk6 k (by omega)), .inr ⟨by omega, by omega⟩⟩
        · show SrAt _ _ An ns2
          have h9 := HS.out.1.take 9
          rw [← HNS.out] at h9
          refine h9.keep fun k hk => ?_
          have hk : k < B := hk
          exact ⟨(ho6.trans hal).block k (by omega) (by omega), .inl hk⟩
        · intro e
          show ns2 = []
          rw [HNS.out, HS.out.2.2.2 e]; rfl
      have HC6 := Lib.hid ((hal.block g (lt_of_blk hc6) |> fun _ => Below.heap_alloc w6 (.cells (ne6 (Nd.mk x.kd nm2 x.nu r.1 ns2 x.at_, (A5, r.1.length, c5), (An, ns2.length, cn))).toArray 49) g (lt_of_blk hc6)).trans hc6)
      have HO6 := Lib.hid (ho6.trans hal)
      have hs0 : w.heap.size ≤ (w6.alloc (.cells (ne6 (Nd.mk x.kd nm2 x.nu r.1 ns2 x.at_, (A5, r.1.length, c5), (An, ns2.length, cn))).toArray 49)).heap.size := Nat.le_trans hws (ho6.trans hal).size
      have HY := Lib.hid hy
      clear hs6 ih hx5 hc5 hn5 hx6 hc6 ho6 hk6 ho5 hal hy
      have hyr : Rd (w6.alloc (.cells (ne6 (Nd.mk x.kd nm2 x.nu r.1 ns2 x.at_, (A5, r.1.length, c5), (An, ns2.length, cn))).toArray 49)) (w6.alloc (.cells (ne6 (Nd.mk x.kd nm2 x.nu r.1 ns2 x.at_, (A5, r.1.length, c5), (An, ns2.length, cn))).toArray 49)).heap.size (some ⟨w6.heap.size, 0, none⟩) (ne_ [y]) := by rw [HY.out]; exact hyr0
      clear hyr0
      go_wp2_with (at_builtin; refine wpList_append_f (base := w.heap.size) (v := .slice A2 es.length c2) (xs := es) (news := [y]) rfl _ _ rfl rfl rfl HOWN.out hyr (fun h => by cases h) (by omega) (by simp) hs0 ?_
                   intro A7 t7 c7 w7 HT7 HO7 HB7)
      go_roundw
      case rel =>
        have hF7 := FewI.more (m' := r.2) HF.out hB hgw HO6.out HEN.out HC6.out (by rw [← HT7.out]; exact HO7.out) HB7.out.1 HB7.out.2
        rw [← HT7.out] at hF7
        refine ⟨i + 1, t7, A7, c7, r.2, by omega, rfl, by simp, by rw [HT7.out, List.length_append, List.length_singleton]; omega, Lib.hid hF7, Lib.hid ?_⟩
        rw [HT7.out, HM1.out, HY.out]
        simp
      case measure => simp [intOf]; omega
end Go.Proofs.YtfcceojfcmgmlaaGreatDoor.Fl

/-
  A method of at most so many nodes: the law's Cut.
-/
namespace Go.Proofs.YtfcceojfcmgmlaaGreatDoor.Fl
open Go.RowKit Go.Shelf

def cutM (m : Me) : Me := ⟨m.nm, m.ps.take 15, m.ts.take 15, m.pr, (fewL m.bd 200 60).1, m.at_⟩
theorem cut_result {W : World} {C : Nat} {v0 v1 v2 v3 v4 v5 : Value} {a : Array Value} (h : W.heap[C]? = some (.cells #[v0, v1, v2, v3, v4, v5] 25 (0, 0))) (h2 : a[2]?.getD undef = .pointer (some ⟨C, 0, none⟩)) :
    (results Tryz.f8 a).run Tryz.prog W = .ok (.agg #[v0, v1, v2, v3, v4, v5]) W := by
  obtain ⟨c0, c1, c2, c3, c4, c5, _⟩ := cells6T h
  simp [results, Tryz.results8, go_sem, h2, c0, c1, c2, c3, c4, c5]
theorem boxes3T (w : World) (x y z : Obj) (W : World) (hW : ((w.alloc x).alloc y).alloc z = W) : W.heap[w.heap.size]? = some x ∧ W.heap[w.heap.size + 1]? = some y ∧ W.heap[w.heap.size + 2]? = some z ∧ Below w.heap.size w W := by
  obtain ⟨h1, h2, h3⟩ := boxes2T w x y _ rfl
  have hs : ((w.alloc x).alloc y).heap.size = w.heap.size + 2 := by rw [World.size_alloc, World.size_alloc]
  refine ⟨?_, ?_, ?_, ?_⟩
  · rw [← hW]; exact (Below.heap_alloc _ _ _ (by omega)).trans h1
  · rw [← hW]; exact (Below.heap_alloc _ _ _ (by omega)).trans h2
  · rw [← hW, ← hs]; exact heap_alloc_new _ _
  · rw [← hW]; exact h3.alloc (by omega) _
theorem set6T {w : World} {C : Nat} {a0 a1 a2 a3 a4 a5 : Value} {T : TypeId} (h : w.heap[C]? = some (.cells #[a0, a1, a2, a3, a4, a5] T (0, 0))) (v0 v1 v2 v3 v4 v5 : Value) :
    ((((((w.setCell ⟨C, 0, none⟩ v0).setCell ⟨C, 1, none⟩ v1).setCell ⟨C, 2, none⟩ v2).setCell ⟨C, 3, none⟩ v3).setCell ⟨C, 4, none⟩ v4).setCell ⟨C, 5, none⟩ v5).heap[C]? = some (.cells #[v0, v1, v2, v3, v4, v5] T (0, 0)) :=
  heap_setCell_same _ C 5 _ _ v5 (heap_setCell_same _ C 4 _ _ v4 (heap_setCell_same _ C 3 _ _ v3 (heap_setCell_same _ C 2 _ _ v2 (heap_setCell_same _ C 1 _ _ v1 (heap_setCell_same w C 0 _ _ v0 h)))))
theorem six_setT {w : World} {C : Nat} (v0 v1 v2 v3 v4 v5 : Value) :
    (∀ k, k ≠ C → ((((((w.setCell ⟨C, 0, none⟩ v0).setCell ⟨C, 1, none⟩ v1).setCell ⟨C, 2, none⟩ v2).setCell ⟨C, 3, none⟩ v3).setCell ⟨C, 4, none⟩ v4).setCell ⟨C, 5, none⟩ v5).heap[k]? = w.heap[k]?) ∧
    ((((((w.setCell ⟨C, 0, none⟩ v0).setCell ⟨C, 1, none⟩ v1).setCell ⟨C, 2, none⟩ v2).setCell ⟨C, 3, none⟩ v3).setCell ⟨C, 4, none⟩ v4).setCell ⟨C, 5, none⟩ v5).heap.size = w.heap.size := by
  refine ⟨fun k hk => ?_, by simp [World.setCell]⟩
  rw [Below.heap_setCell _ ⟨C, 5, none⟩ _ k hk, Below.heap_setCell _ ⟨C, 4, none⟩ _ k hk, Below.heap_setCell _ ⟨C, 3, none⟩ _ k hk, Below.heap_setCell _ ⟨C, 2, none⟩ _ k hk, Below.heap_setCell _ ⟨C, 1, none⟩ _ k hk, Below.heap_setCell _ ⟨C, 0, none⟩ _ k hk]
/-- anywhere but in two blocks -/
def Nt (B T hi : Nat) : Nat → Prop := fun k => k ≠ T ∧ k ≠ T + 1 ∧ (k < B ∨ T ≤ k) ∧ k < hi
/-- how memory stands while a method is cut -/
structure CutI (w wx : World) (B T : Nat) (u0 u1 u2 u3 u4 u5 : Value) (A : Option Addr) (l : List Nd) : Prop where
  box : wx.heap[T]? = some (.cells #[u0, u1, u2, u3, u4, u5] 25 (0, 0))
  res : wx.heap[T + 1]? = some (.cells #[.string ⟨#[]⟩, .slice none 0 0, .slice none 0 0, .int .i64 0, .slice none 0 0, .int .i64 0] 25 (0, 0))
  bel : Below T w wx
  nds : NdsAt wx (Nt B T wx.heap.size) A l
theorem CutI.set {w wx : World} {B T : Nat} {u0 u1 u2 u3 u4 u5 v0 v1 v2 v3 v4 v5 : Value} {A : Option Addr} {l : List Nd} (h : CutI w wx B T u0 u1 u2 u3 u4 u5 A l) (k : Nat) (x : Value)
    (hv : (#[u0, u1, u2, u3, u4, u5] : Array Value).setIfInBounds k x = #[v0, v1, v2, v3, v4, v5]) : CutI w (wx.setCell ⟨T, k, none⟩ x) B T v0 v1 v2 v3 v4 v5 A l :=
  ⟨by rw [← hv]; exact heap_setCell_same wx T k _ _ x h.box, (Below.heap_setCell wx ⟨T, k, none⟩ x (T + 1) (show T + 1 ≠ T by omega)).trans h.res, h.bel.setCell (p := ⟨T, k, none⟩) (Nat.le_refl _) x,
    h.nds.keep fun j hj => ⟨Below.heap_setCell wx ⟨T, k, none⟩ x j hj.1, hj.1, hj.2.1, hj.2.2.1, by rw [show (wx.setCell ⟨T, k, none⟩ x).heap.size = wx.heap.size by simp [World.setCell]]; exact hj.2.2.2⟩⟩
set_option maxRecDepth 100000 in
set_option maxHeartbeats 8000000 in
theorem cut_any (m : Me) (v : Value) (B : Nat) (w : World) (h : MeAt w (Lo B) v m) (hB : B ≤ w.heap.size) :
    Calls Tryz.prog 8 #[v] w fun e w' => ∃ v', e = .returned v' ∧ MeAt w' (Nw B w.heap.size w'.heap.size) v' (cutM m) ∧ Below w.heap.size w w' := by
  obtain ⟨Ap, cp, At, ct, Ab, cb, rfl, h1, h2, h3, h4, h5, h6, s1, s2, s3, n1, n2, n3⟩ := h.ex
  clear h
  have HS := Lib.hid (And.intro s1 (And.intro s2 (And.intro n1 n2)))
  clear s1 s2 n1 n2
  obtain ⟨T, hT⟩ : ∃ T, w.heap.size = T := ⟨_, rfl⟩
  obtain ⟨W, hW⟩ : ∃ W, ((w.alloc (.cells #[.string (mkB m.nm), .slice Ap m.ps.length cp, .slice At m.ts.length ct, .int .i64 m.pr, .slice Ab m.bd.length cb, .int .i64 m.at_] 25)).alloc (.cells #[.string ⟨#[]⟩, .slice none 0 0, .slice none 0 0, .int .i64 0, .slice none 0 0, .int .i64 0] 25)).alloc (.cells #[.int .i64 200] 3) = W := ⟨_, rfl⟩
  obtain ⟨q1, q2, q3, hb⟩ := boxes3T w _ _ _ W hW
  rw [hT] at q1 q2 q3
  have hc := rfew_any 60 m.bd Ab cb B (T + 2) 200 W (by omega) (by omega) (s3.below (hb.mono hB) (Nat.le_refl _)) (by omega) q3 h5 h6
  obtain ⟨r, hr⟩ : ∃ r, fewL m.bd 200 60 = r := ⟨_, rfl⟩
  rw [hr] at hc
  go_enter Tryz.func8, Tryz.ntmps8
  go_upto_region 2 with fail
  try simp only [hW]
  try simp only [hT]
  have HT := Lib.hid hT
  have HQ := Lib.hid (And.intro q1 (And.intro q2 hb))
  clear hW hT q2 q3 hb s3 n3
  have f1 := cells6T q1
  have l1 := lt_of_blk q1
  go_upto_region 3 with (go_at_call 23; refine hc.mono ?_; rintro e w5 ⟨ho5, hc5, A5, c5, rfl, hl5, hm5, hn5, hz5⟩; clear hc; have hx5 := (ho5.block T l1 (by omega)).trans HQ.out.1; have f5 := cells6T hx5; have l5 := lt_of_blk hx5)
  have hzw := ho5.size
  have h5w := HQ.out.2.2.size
  have ht := HT.out
  have lw1 := lt_of_blk HQ.out.2.1
  have HX : Hid (CutI w (w5.setCell ⟨T, 4, none⟩ (.slice A5 r.1.length c5)) B T (.string (mkB m.nm)) (.slice Ap m.ps.length cp) (.slice At m.ts.length ct) (.int .i64 m.pr) (.slice A5 r.1.length c5) (.int .i64 m.at_) A5 r.1) :=
    Lib.hid (CutI.set (u4 := .slice Ab m.bd.length cb) ⟨hx5, (ho5.block (T + 1) lw1 (by omega)).trans HQ.out.2.1, Below.trans (by have := HQ.out.2.2; rw [ht] at this; exact this) (ho5.below (by omega) (by omega)), hn5.keep fun k hk => ⟨rfl, by
      rcases hk with hk | ⟨a1, a2⟩
      · exact ⟨by omega, by omega, .inl hk, by omega⟩
      · exact ⟨by omega, by omega, .inr (by omega), a2⟩⟩⟩ 4 _ rfl)
  have HZ := Lib.hid (And.intro hl5 (And.intro hm5 hz5))
  generalize w5.setCell ⟨T, 4, none⟩ (.slice A5 r.1.length c5) = w6 at *
  clear hn5 hx5 f5 l5 hc5 ho5 hzw h5w lw1 f1 l1 HQ q1 hl5 hm5 hz5 ht
  have f1 := cells6T HX.out.box
  have l1 := lt_of_blk HX.out.box
  go_upto_if 11 with fail
  go_cut [] (fun wx => ∃ ps2 : List (List UInt8), Hid (ps2 = m.ps.take 15) ∧ Hid (CutI w wx B T (.string (mkB m.nm)) (.slice Ap ps2.length cp) (.slice At m.ts.length ct) (.int .i64 m.pr) (.slice A5 r.1.length c5) (.int .i64 m.at_) A5 r.1))
  case first =>
    by_cases h8 : 15 < m.ps.length
    · have h8i : (15 : Int) < (m.ps.length : Int) := by omega
      have h9 : (m.ps.take 15).length = 15 := by rw [List.length_take]; omega
      obtain ⟨a0, ha0⟩ : ∃ a0, Ap = some a0 := by
        cases hAn : Ap with
        | none => have := HS.out.2.2.1 hAn; rw [this] at h8; cases h8
        | some a0 => exact ⟨a0, rfl⟩
      subst ha0
      go_wp2_with fail
      go_meet
      exact ⟨m.ps.take 15, Lib.hid rfl, by rw [h9]; exact Lib.hid (HX.out.set 1 _ rfl)⟩
    · have h8i : ¬ (15 : Int) < (m.ps.length : Int) := by omega
      go_wp2_with fail
      go_meet
      exact ⟨m.ps, Lib.hid (by rw [List.take_of_length_le (by omega)]), HX⟩
  case rest =>
  clear f1 l1 HX
  obtain ⟨ps2, Hps2, HX⟩ := hcut
  have f1 := cells6T HX.out.box
  have l1 := lt_of_blk HX.out.box
  go_upto_if 19 with fail
  go_cut [] (fun wx => ∃ ts2 : List (List UInt8), Hid (ts2 = m.ts.take 15) ∧ Hid (CutI w wx B T (.string (mkB m.nm)) (.slice Ap ps2.length cp) (.slice At ts2.length ct) (.int .i64 m.pr) (.slice A5 r.1.length c5) (.int .i64 m.at_) A5 r.1))
  case first =>
    by_cases h8 : 15 < m.ts.length
    · have h8i : (15 : Int) < (m.ts.length : Int) := by omega
      have h9 : (m.ts.take 15).length = 15 := by rw [List.length_take]; omega
      obtain ⟨a0, ha0⟩ : ∃ a0, At = some a0 := by
        cases hAn : At with
        | none => have := HS.out.2.2.2 hAn; rw [this] at h8; cases h8
        | some a0 => exact ⟨a0, rfl⟩
      subst ha0
      go_wp2_with fail
      go_meet
      exact ⟨m.ts.take 15, Lib.hid rfl, by rw [h9]; exact Lib.hid (HX.out.set 2 _ rfl)⟩
    · have h8i : ¬ (15 : Int) < (m.ts.length : Int) := by omega
      go_wp2_with fail
      go_meet
      exact ⟨m.ts, Lib.hid (by rw [List.take_of_length_le (by omega)]), HX⟩
  case rest =>
  clear f1 l1 HX
  obtain ⟨ts2, Hts2, HX⟩ := hcut
  have f1 := cells6T HX.out.box
  have l1 := lt_of_blk HX.out.box
  have f2 := cells6T HX.out.res
  have l2 := lt_of_blk HX.out.res
  go_wp2_with fail
  have g1 := set6T HX.out.res (.string (mkB m.nm)) (.slice Ap ps2.length cp) (.slice At ts2.length ct) (.int .i64 m.pr) (.slice A5 r.1.length c5) (.int .i64 m.at_)
  obtain ⟨k1, k2⟩ := six_setT (w := wc) (C := T + 1) (.string (mkB m.nm)) (.slice Ap ps2.length cp) (.slice At ts2.length ct) (.int .i64 m.pr) (.slice A5 r.1.length c5) (.int .i64 m.at_)
  have hbe := (((((HX.out.bel.setCell (p := ⟨T + 1, 0, none⟩) (Nat.le_succ T) (.string (mkB m.nm))).setCell (p := ⟨T + 1, 1, none⟩) (Nat.le_succ T) (.slice Ap ps2.length cp)).setCell (p := ⟨T + 1, 2, none⟩) (Nat.le_succ T) (.slice At ts2.length ct)).setCell (p := ⟨T + 1, 3, none⟩) (Nat.le_succ T) (.int .i64 m.pr)).setCell (p := ⟨T + 1, 4, none⟩) (Nat.le_succ T) (.slice A5 r.1.length c5)).setCell (p := ⟨T + 1, 5, none⟩) (Nat.le_succ T) (.int .i64 m.at_)
  refine bodyPost_ret (v := .agg #[.string (mkB m.nm), .slice Ap ps2.length cp, .slice At ts2.length ct, .int .i64 m.pr, .slice A5 r.1.length c5, .int .i64 m.at_]) (cut_result g1 rfl) rfl ?_
  have ht := HT.out
  have hs0 := HX.out.bel.size
  refine ⟨_, rfl, ⟨Ap, cp, At, ct, A5, c5, ?_, ?_, h2, ?_, h4, ?_, HZ.out.2.1, ?_, ?_, ?_, ?_, ?_, ?_⟩, by rw [ht]; exact hbe⟩
  · show _ = Value.agg #[_, .slice Ap (m.ps.take 15).length cp, .slice At (m.ts.take 15).length ct, _, .slice A5 (fewL m.bd 200 60).1.length c5, _]
    rw [hr, ← Hps2.out, ← Hts2.out]; rfl
  · show (m.ps.take 15).length ≤ cp
    rw [List.length_take]; omega
  · show (m.ts.take 15).length ≤ ct
    rw [List.length_take]; omega
  · show (fewL m.bd 200 60).1.length ≤ c5
    rw [hr]; exact HZ.out.1
  · refine (HS.out.1.take 15).keep fun k hk => ?_
    have hk : k < B := hk
    exact ⟨hbe.block k (by omega), .inl hk⟩
  · refine (HS.out.2.1.take 15).keep fun k hk => ?_
    have hk : k < B := hk
    exact ⟨hbe.block k (by omega), .inl hk⟩
  · show NdsAt _ _ A5 (fewL m.bd 200 60).1
    rw [hr]
    exact HX.out.nds.keep fun k hk => ⟨k1 k hk.2.1, hk.2.2.1.imp id fun h => ⟨by omega, by rw [k2]; exact hk.2.2.2⟩⟩
  · intro e
    show m.ps.take 15 = []
    rw [HS.out.2.2.1 e]; rfl
  · intro e
    show m.ts.take 15 = []
    rw [HS.out.2.2.2 e]; rfl
  · intro e
    show (fewL m.bd 200 60).1 = []
    rw [hr]; exact HZ.out.2.2 e
end Go.Proofs.YtfcceojfcmgmlaaGreatDoor.Fl

/-
  The program's nodes out of the document's: Nodes.
-/
namespace Go.Proofs.YtfcceojfcmgmlaaGreatDoor.Fl
open Go.RowKit Go.Shelf

theorem nodeinfoP : (Tryz.prog.info? 47).map (fun i => (i.zero, i.size, i.bytes)) = some (some (.agg #[.int .i64 0, .string ⟨#[]⟩, .int .i64 0, .slice none 0 0, .slice none 0 0, .int .i64 0]), 6, 88) := by kernel_rfl
def OwnP (w : World) (base : Nat) (v : Value) (l : List NE) : Prop := w.ownsRow base 47 6 v l.length (ne_ l)
theorem OwnP.below {w w' : World} {base : Nat} {v : Value} {xs : List NE} (h : OwnP w base v xs) (hb : Below w.heap.size w w') : OwnP w' base v xs :=
  ⟨h.1, h.2.elim .inl fun ⟨g, cap, cur, hv, hbg, hg, r⟩ => .inr ⟨g, cap, cur, hv, hbg, (hb.block g (lt_of_blk hg)).trans hg, r⟩⟩
theorem step_append_p {w : World} {base c : Nat} {A : Option Addr} {xs news : List NE} {v : Value} {ops : Array Oper} {o : Oper} {a : Act} {K : Act → World → Prop} {Q : Exit → Act → World → Prop} {E : Prop} (hg : o.guard = none) (s x : Operand) (ho : o.op = .call { callee := .builtin .append, args := #[s, x], argTypes := #[28, 28] })
    (hs : a.eval s = v) (hx : a.eval x = .slice A news.length c) (hown : OwnP w base v xs) (hr : Rd w w.heap.size A (ne_ news)) (hA : A = none → news.length = 0) (hl : xs.length ≤ 100000000) (hl2 : news.length ≤ 100000000) (hb : base ≤ w.heap.size)
    (h : ∀ A' ts c' w', Hid (ts = xs ++ news) → Hid (OwnP w' base (.slice A' ts.length c') ts) → Hid (w.grownBy w' v.ownBlock ∧ ((Value.slice A' ts.length c').ownBlock = v.ownBlock ∨ (Value.slice A' ts.length c').ownBlock = some w.heap.size)) → K (a.put o.dst (.slice A' ts.length c')) w') :
    if Region.wanted o (yielded ops a.tmps) = true then Oper.wp Tryz.prog o a w K Q else E := by
  obtain ⟨i0, hi, hz0, hz1, hz2⟩ := info_parts nodeinfoP
  refine step_append_rd (base := base) (size := 6) (bytes := 88) (n := xs.length) (m := news.length) (c := c) (v := v) (xs := ne_ xs) (news := ne_ news) hg s x ho Tryz.underlying28 hi hz0 hz1 hz2 rfl (by decide) hs hx hown hr (ne__len _) hA (ne__one _) (by unfold maxLen; omega) (by omega) hb ?_
  intro v' w' happ
  obtain ⟨A', c', rfl, _, _⟩ := happ.slice
  have e : xs.length + news.length = (xs ++ news).length := by simp
  have ho := happ.own
  have hat := happ.at_
  rw [e, show ne_ xs ++ ne_ news = ne_ (xs ++ news) from (ne__app _ _).symm] at ho
  rw [e] at hat ⊢
  exact h A' (xs ++ news) c' w' (Lib.hid rfl) (Lib.hid ho) (Lib.hid ⟨happ.grown, hat⟩)
structure NodI (w0 w : World) (es : List NE) (v : Value) : Prop where
  own : OwnP w w0.heap.size v es
  bel : Below w0.heap.size w0 w
  ent : ∀ x ∈ es, Ent w (Nx 0 w0.heap.size w.heap.size v) x
theorem NodI.more {w0 wr w6 w7 : World} {es : List NE} {v v' : Value} {x : NE} (h : NodI w0 wr es v) (ho : Below wr.heap.size wr w6) (hx : Ent w6 (Nw 0 wr.heap.size w6.heap.size) x)
    (hown : OwnP w7 w0.heap.size v' (es ++ [x])) (hgr : w6.grownBy w7 v.ownBlock) (hat : v'.ownBlock = v.ownBlock ∨ v'.ownBlock = some w6.heap.size) : NodI w0 w7 (es ++ [x]) v' := by
  have hlo := World.ownsRow.lt h.own
  have hs := h.bel.size
  have hs2 := ho.size
  have hkeep : ∀ k, k < w6.heap.size → some k ≠ v.ownBlock → w7.heap[k]? = w6.heap[k]? := hgr.block
  refine ⟨hown, (h.bel.trans (ho.mono hs)).grown hgr (Nat.le_trans hs hs2) (fun k e => (hlo k e).1), fun y hy => ?_⟩
  rcases List.mem_append.1 hy with hy | hy
  · refine (h.ent y hy).keep fun k hk => ?_
    rcases hk with hk | ⟨a, b, c⟩
    · exact absurd hk (Nat.not_lt_zero k)
    · refine ⟨(hkeep k (by omega) (fun e => c e.symm)).trans (ho.block k b), .inr ⟨a, Nat.lt_of_lt_of_le (show k < w6.heap.size by omega) hgr.size, ?_⟩⟩
      rcases hat with e | e <;> rw [e]
      · exact c
      · intro e; injection e with e; omega
  · rw [List.mem_singleton.1 hy]
    refine hx.keep fun k hk => ?_
    rcases hk with hk | ⟨a, b⟩
    · exact absurd hk (Nat.not_lt_zero k)
    · refine ⟨hkeep k b (fun e => by have := hlo k e.symm; omega), .inr ⟨by omega, Nat.lt_of_lt_of_le b hgr.size, ?_⟩⟩
      rcases hat with e | e <;> rw [e]
      · intro e; have := hlo k e; omega
      · intro e; injection e with e; omega
/-- what Nodes answers: the same tree, all of it new -/
def NodT (w0 : World) (l : List Nd) (e : Ending) (w : World) : Prop :=
  Below w0.heap.size w0 w ∧ ∃ A c, e = .returned (.slice A l.length c) ∧ l.length ≤ c ∧ c ≤ 9223372036854775807 ∧ NdsAt w (Nw 0 w0.heap.size w.heap.size) A l ∧ (A = none → l = []) ∧
    ∃ es : List NE, es.map (fun x => x.1) = l ∧ OwnP w w0.heap.size (.slice A l.length c) es ∧ ∀ x ∈ es, Ent w (Nx 0 w0.heap.size w.heap.size (.slice A l.length c)) x
theorem NodI.fin {w0 w : World} {c : Nat} {es : List NE} {A : Option Addr} {l : List Nd} (h : NodI w0 w es (.slice A es.length c)) (hl : es.map (fun x => x.1) = l) : NodT w0 l (.returned (.slice A es.length c)) w := by
  have hlo := World.ownsRow.lt h.own
  obtain ⟨hr, hl1, hA⟩ := own_rdZ h.own
  have hcap : c ≤ 9223372036854775807 := by
    rcases h.own.2 with ⟨e, _⟩ | ⟨_, cap, _, e, _, _, _, hm, _⟩
    · injection e with _ _ e; omega
    · injection e with _ _ e; unfold maxLen at hm; omega
  subst hl
  refine ⟨h.bel, A, c, by simp, by simpa using hl1, hcap, nds_of_row hr (fun a e => ?_) (fun x hx => (h.ent x hx).keep fun k hk => ⟨rfl, ?_⟩), fun e => ?_, es, rfl, by rw [List.length_map]; exact h.own, by rw [List.length_map]; exact h.ent⟩
  · subst e; have := hlo a.block rfl; exact .inr this
  · rcases hk with hk | ⟨a, b, _⟩
    · exact .inl hk
    · exact .inr ⟨a, b⟩
  · have := hA e
    cases es with
    | nil => rfl
    | cons x l => cases this
/-- texts of a row of its own -/
theorem sr_of_row {w : World} {P : Nat → Prop} {base c : Nat} {A : Option Addr} {l : List (List UInt8)} (h : OwnS w base (.slice A l.length c) l) (hP : ∀ k, base ≤ k → k < w.heap.size → P k) : SrAt w P A l ∧ l.length ≤ c ∧ c ≤ 9223372036854775807 ∧ (A = none → l = []) := by
  have hlo := World.ownsRow.lt h
  obtain ⟨hr, hl, hA⟩ := own_rdZ h
  refine ⟨?_, hl, ?_, fun e => List.eq_nil_of_length_eq_zero (hA e)⟩
  · rcases hr with e | ⟨b, off, rfl, hb, hc⟩
    · refine .inl ?_
      cases l with
      | nil => rfl
      | cons x l => cases e
    · exact .inr ⟨b, off, rfl, hP b (hlo b rfl).1 hb, hc⟩
  · rcases h.2 with ⟨e, _⟩ | ⟨_, cap, _, e, _, _, _, hm, _⟩
    · injection e with _ _ e; omega
    · injection e with _ _ e; unfold maxLen at hm; omega
theorem rd_of_sr {w : World} {B : Nat} {A : Option Addr} {l : List (List UInt8)} (h : SrAt w (Lo B) A l) : Rd w B A (cs_ l) := by
  rcases h with rfl | ⟨b, off, rfl, hb, hc⟩
  · exact .inl rfl
  · exact .inr ⟨b, off, rfl, hb, hc⟩
theorem ne_oneT (T : TypeId) (w : World) (x : NE) : Rd (w.alloc (.cells (ne6 x).toArray T)) (w.alloc (.cells (ne6 x).toArray T)).heap.size (some ⟨w.heap.size, 0, none⟩) (ne_ [x]) := by
  have hg := heap_alloc_new w (.cells (ne6 x).toArray T)
  refine .inr ⟨w.heap.size, 0, rfl, lt_of_blk hg, fun j v hj => ?_⟩
  unfold World.cell?
  have e : ne_ [x] = ne6 x := by simp [ne_]
  rw [e] at hj
  simp only [hg, Option.bind_some, Nat.zero_add]
  show (ne6 x).toArray[j]? = some v
  rw [List.getElem?_toArray]
  exact hj
set_option maxRecDepth 100000 in
set_option maxHeartbeats 8000000 in
theorem nodes_any (n : Nat) : ∀ (xs : List Nd) (A : Option Addr) (c B : Nat) (w : World), cntL xs ≤ n → cntL xs ≤ 10000000 → (∀ y ∈ allL xs, y.ns.length ≤ 100000000) → NdsAt w (Lo B) A xs → B ≤ w.heap.size → xs.length ≤ c → c ≤ 9223372036854775807 →
    Calls Tryz.prog 24 #[.slice A xs.length c] w (NodT w xs) := by
  induction n using Nat.strongRecOn with
  | _ n ih =>
    intro xs A c B w hn hs hns h hB hc hcc
    have H1 := Lib.hid h
    clear h
    have hxl := cnt_len xs
    go_enter Tryz.func24, Tryz.ntmps24
    go_wp2_with fail
    go_loopw [3, 8] (fun u v wr => ∃ (i : Nat) (es : List NE) (A2 : Option Addr) (c2 : Nat), i ≤ xs.length ∧ u = .slice A2 es.length c2 ∧ v = .int .i64 (i : Int) ∧ Hid (es.length = i) ∧ Hid (NodI w wr es (.slice A2 es.length c2)) ∧ Hid (es.map (fun x => x.1) = xs.take i)) (fun _ v _ => xs.length - (intOf v).toNat)
    case atStart => exact ⟨0, [], none, 0, Nat.zero_le _, rfl, rfl, Lib.hid rfl, Lib.hid ⟨World.ownsRow_nil _ _ _ _, Below.refl _ _, fun x hx => by cases hx⟩, Lib.hid rfl⟩
    case round =>
      obtain ⟨i, es, A2, c2, hi, rfl, rfl, hei, HF, HM⟩ := hrel
      by_cases hlt : i < xs.length
      case neg =>
        have hq : ¬ ((i : Int) < (xs.length : Int)) := by omega
        have HE := Lib.hid (show es.map (fun x => x.1) = xs by have := HM.out; rwa [List.take_of_length_le (by omega)] at this)
        go_wp2_with fail
        go_ret
        exact HF.out.fin HE.out
      have hq : (i : Int) < (xs.length : Int) := by omega
      have hws := HF.out.bel.size
      have hN1 := (H1.out.below (HF.out.bel.mono hB) (Nat.le_refl _)).at_ hlt
      obtain ⟨b, o, rfl, hb, Ak, ck, An, cn, d0, d1, d2, d3, d4, d5, g1, g2, g3, g4, g5, g6, g7, g8⟩ := hN1
      have hb : b < B := hb
      have hbw : b < wr.heap.size := by omega
      have hck := cnt_kid hlt
      have HMn := Lib.hid (show es.map (fun x => x.1) ++ [xs[i]] = xs.take (i + 1) by rw [HM.out, List.take_succ_eq_append_getElem hlt])
      have hmem : ∀ y ∈ xs[i] :: allL xs[i].kids, y ∈ allL xs := fun y hy => by
        have e : allL (xs.take (i + 1)) = allL (xs.take i) ++ xs[i] :: allL xs[i].kids := by rw [List.take_succ_eq_append_getElem hlt, allL_app, allL, allN_eq, allL, List.append_nil]
        have e2 : allL xs = allL (xs.take (i + 1)) ++ allL (xs.drop (i + 1)) := by rw [← allL_app, List.take_append_drop]
        rw [e2, e]
        exact List.mem_append_left _ (List.mem_append_right _ hy)
      have hnx := hns _ (hmem _ (List.mem_cons_self ..))
      obtain ⟨X, hX⟩ : ∃ X, wr.heap.size = X := ⟨_, rfl⟩
      obtain ⟨W1, hW1⟩ : ∃ W1, wr.alloc (.cells #[.int .i64 xs[i].kd, .string (mkB xs[i].nm), .int .i64 xs[i].nu, .slice Ak xs[i].kids.length ck, .slice An xs[i].ns.length cn, .int .i64 xs[i].at_] 49) = W1 := ⟨_, rfl⟩
      have hb1 : Below wr.heap.size wr W1 := by rw [← hW1]; exact (Below.refl _ _).alloc (Nat.le_refl _) _
      have HRC : Hid (∀ w', Below W1.heap.size W1 w' → Calls Tryz.prog 24 #[.slice Ak xs[i].kids.length ck] w' (NodT w' xs[i].kids)) :=
        Lib.hid (fun w' hbw' => ih (cntL xs[i].kids) (by omega) xs[i].kids Ak ck B w' (Nat.le_refl _) (by omega) (fun y hy => hns y (hmem y (List.mem_cons_of_mem _ hy))) (g6.below ((hb1.trans (hbw'.mono hb1.size)).mono (by omega)) (Nat.le_refl _)) (Nat.le_trans (by omega) (Nat.le_trans hb1.size hbw'.size)) g1 g3)
      have HNR := Lib.hid (And.intro g5 (And.intro g7 g8))
      have HAN := Lib.hid (show An = none → xs[i].ns.length = 0 from fun e => by rw [g8 e]; rfl)
      clear ih hns hmem g5 g6 g7 g8 hck HM
      generalize xs[i] = x at *
      have hx1 : W1.heap[X]? = some (.cells #[.int .i64 x.kd, .string (mkB x.nm), .int .i64 x.nu, .slice Ak x.kids.length ck, .slice An x.ns.length cn, .int .i64 x.at_] 49 (0, 0)) := by
        rw [← hW1, ← hX]; exact heap_alloc_new wr _
      have lX := lt_of_blk hx1
      go_upto_region 5 with fail
      rename_i KK hKK
      have HKK := Lib.hid hKK
      clear hKK
      try simp only [hW1, hX]
      have HX := Lib.hid hX
      have HB1 := Lib.hid hb1
      clear hW1 hX hb1 d0 d1 d2 d3 d4 d5 hbw
      have f1 := cells6T hx1
      have hS : (fun w' : World => w'.cell? ⟨X, 0, none⟩ = some (.int .i64 x.kd) ∧ w'.cell? ⟨X, 1, none⟩ = some (.string (mkB x.nm)) ∧ w'.cell? ⟨X, 2, none⟩ = some (.int .i64 x.nu) ∧ w'.cell? ⟨X, 3, none⟩ = some (.slice Ak x.kids.length ck) ∧ w'.cell? ⟨X, 4, none⟩ = some (.slice An x.ns.length cn) ∧ w'.cell? ⟨X, 5, none⟩ = some (.int .i64 x.at_)) W1.drew := ⟨f1.1, f1.2.1, f1.2.2.1, f1.2.2.2.1, f1.2.2.2.2.1, f1.2.2.2.2.2.1⟩
      refine wp_region_noPanic ?_
      refine wp_region_held_drew (S := (fun w' : World => w'.cell? ⟨X, 0, none⟩ = some (.int .i64 x.kd) ∧ w'.cell? ⟨X, 1, none⟩ = some (.string (mkB x.nm)) ∧ w'.cell? ⟨X, 2, none⟩ = some (.int .i64 x.nu) ∧ w'.cell? ⟨X, 3, none⟩ = some (.slice Ak x.kids.length ck) ∧ w'.cell? ⟨X, 4, none⟩ = some (.slice An x.ns.length cn) ∧ w'.cell? ⟨X, 5, none⟩ = some (.int .i64 x.at_))) (by kernel_rfl) hS (fun hHeld => ?_)
      clear hS f1
      refine wpAnyH_take (i := 0) (v := ?_) (by first | (simp only [List.getElem?_toArray, List.getElem?_cons_succ, List.getElem?_cons_zero]; rfl) | rfl) (by kernel_rfl) (by kernel_rfl) (by kernel_rfl) (fun _ _ _ h => h) (Or.inl ⟨by rfl, ?_⟩) (by assumption) ?_
      rotate_left 1
      · (intro w' hSw; (try dsimp only at hSw); go_simp; (try with_reducible rfl))
      try simp only [Act.put, List.setIfInBounds_toArray, List.set_cons_zero, List.set_cons_succ]
      refine wpAnyH_take (i := 1) (v := ?_) (by first | (simp only [List.getElem?_toArray, List.getElem?_cons_succ, List.getElem?_cons_zero]; rfl) | rfl) (by kernel_rfl) (by kernel_rfl) (by kernel_rfl) (fun _ _ _ h => h) (Or.inl ⟨by rfl, ?_⟩) (by assumption) ?_
      rotate_left 1
      · (intro w' hSw; (try dsimp only at hSw); go_simp; (try with_reducible rfl))
      try simp only [Act.put, List.setIfInBounds_toArray, List.set_cons_zero, List.set_cons_succ]
      refine wpAnyH_take (i := 2) (v := ?_) (by first | (simp only [List.getElem?_toArray, List.getElem?_cons_succ, List.getElem?_cons_zero]; rfl) | rfl) (by kernel_rfl) (by kernel_rfl) (by kernel_rfl) (fun _ _ _ h => h) (Or.inl ⟨by rfl, ?_⟩) (by assumption) ?_
      rotate_left 1
      · (intro w' hSw; (try dsimp only at hSw); go_simp; (try with_reducible rfl))
      try simp only [Act.put, List.setIfInBounds_toArray, List.set_cons_zero, List.set_cons_succ]
      refine wpAnyH_take (i := 3) (v := ?_) (by first | (simp only [List.getElem?_toArray, List.getElem?_cons_succ, List.getElem?_cons_zero]; rfl) | rfl) (by kernel_rfl) (by kernel_rfl) (by kernel_rfl) (fun _ _ _ h => h) (Or.inl ⟨by rfl, ?_⟩) (by assumption) ?_
      rotate_left 1
      · (intro w' hSw; (try dsimp only at hSw); go_simp; (try with_reducible rfl))
      try simp only [Act.put, List.setIfInBounds_toArray, List.set_cons_zero, List.set_cons_succ]
      refine wpAnyH_take (i := 4) (v := ?_) (by first | (simp only [List.getElem?_toArray, List.getElem?_cons_succ, List.getElem?_cons_zero]; rfl) | rfl) (by kernel_rfl) (by kernel_rfl) (by kernel_rfl) (fun _ _ _ h => h) (Or.inl ⟨by rfl, ?_⟩) (by assumption) ?_
      rotate_left 1
      · (intro w' hSw; (try dsimp only at hSw); go_simp; (try with_reducible rfl))
      try simp only [Act.put, List.setIfInBounds_toArray, List.set_cons_zero, List.set_cons_succ]
      refine wpAnyH_take (i := 5) (v := ?_) (by first | (simp only [List.getElem?_toArray, List.getElem?_cons_succ, List.getElem?_cons_zero]; rfl) | rfl) (by kernel_rfl) (by kernel_rfl) (by kernel_rfl) (fun _ _ _ h => h) (Or.inl ⟨by rfl, ?_⟩) (by assumption) ?_
      rotate_left 1
      · (intro w' hSw; (try dsimp only at hSw); go_simp; (try with_reducible rfl))
      try simp only [Act.put, List.setIfInBounds_toArray, List.set_cons_zero, List.set_cons_succ]
      refine wpAnyH_take (i := 6) (v := ?_) (by first | (simp only [List.getElem?_toArray, List.getElem?_cons_succ, List.getElem?_cons_zero]; rfl) | rfl) (by kernel_rfl) (by kernel_rfl) (by kernel_rfl) (fun _ _ _ h => h) (Or.inl ⟨by rfl, ?_⟩) (by assumption) ?_
      rotate_left 1
      · (intro w' hSw; (try dsimp only at hSw); go_simp; (try with_reducible rfl))
      try simp only [Act.put, List.setIfInBounds_toArray, List.set_cons_zero, List.set_cons_succ]
      refine wpAnyH_take (i := 7) (v := ?_) (by first | (simp only [List.getElem?_toArray, List.getElem?_cons_succ, List.getElem?_cons_zero]; rfl) | rfl) (by kernel_rfl) (by kernel_rfl) (by kernel_rfl) (fun _ _ _ h => h) (Or.inl ⟨by rfl, ?_⟩) (by assumption) ?_
      rotate_left 1
      · (intro w' hSw; (try dsimp only at hSw); go_simp; (try with_reducible rfl))
      try simp only [Act.put, List.setIfInBounds_toArray, List.set_cons_zero, List.set_cons_succ]
      refine wpAnyH_take (i := 8) (v := ?_) (by first | (simp only [List.getElem?_toArray, List.getElem?_cons_succ, List.getElem?_cons_zero]; rfl) | rfl) (by kernel_rfl) (by kernel_rfl) (by kernel_rfl) (fun _ _ _ h => h) (Or.inl ⟨by rfl, ?_⟩) (by assumption) ?_
      rotate_left 1
      · (intro w' hSw; (try dsimp only at hSw); go_simp; (try with_reducible rfl))
      try simp only [Act.put, List.setIfInBounds_toArray, List.set_cons_zero, List.set_cons_succ]
      refine wpAnyH_take (i := 11) (v := ?_) (by first | (simp only [List.getElem?_toArray, List.getElem?_cons_succ, List.getElem?_cons_zero]; rfl) | rfl) (by kernel_rfl) (by kernel_rfl) (by kernel_rfl) (fun _ _ _ h => h) (Or.inl ⟨by rfl, ?_⟩) (by assumption) ?_
      rotate_left 1
      · (intro w' hSw; (try dsimp only at hSw); go_simp; (try with_reducible rfl))
      try simp only [Act.put, List.setIfInBounds_toArray, List.set_cons_zero, List.set_cons_succ]
      refine wpAnyH_take (i := 12) (v := ?_) (by first | (simp only [List.getElem?_toArray, List.getElem?_cons_succ, List.getElem?_cons_zero]; rfl) | rfl) (by kernel_rfl) (by kernel_rfl) (by kernel_rfl) (fun _ _ _ h => h) (Or.inl ⟨by rfl, ?_⟩) (by assumption) ?_
      rotate_left 1
      · (intro w' hSw; (try dsimp only at hSw); go_simp; (try with_reducible rfl))
      try simp only [Act.put, List.setIfInBounds_toArray, List.set_cons_zero, List.set_cons_succ]
      refine wpAnyH_take (i := 14) (v := ?_) (by first | (simp only [List.getElem?_toArray, List.getElem?_cons_succ, List.getElem?_cons_zero]; rfl) | rfl) (by kernel_rfl) (by kernel_rfl) (by kernel_rfl) (fun _ _ _ h => h) (Or.inl ⟨by rfl, ?_⟩) (by assumption) ?_
      rotate_left 1
      · (intro w' hSw; (try dsimp only at hSw); go_simp; (try with_reducible rfl))
      try simp only [Act.put, List.setIfInBounds_toArray, List.set_cons_zero, List.set_cons_succ]
      refine wpAnyH_take (i := 15) (v := ?_) (by first | (simp only [List.getElem?_toArray, List.getElem?_cons_succ, List.getElem?_cons_zero]; rfl) | rfl) (by kernel_rfl) (by kernel_rfl) (by kernel_rfl) (fun _ _ _ h => h) (Or.inl ⟨by rfl, ?_⟩) (by assumption) ?_
      rotate_left 1
      · (intro w' hSw; (try dsimp only at hSw); go_simp; (try with_reducible rfl))
      try simp only [Act.put, List.setIfInBounds_toArray, List.set_cons_zero, List.set_cons_succ]
      refine wpAnyH_ready (rs := [9, 10]) (by kernel_rfl) (by simp) ?_
      refine AllReadyH.cons (by first | (simp only [List.getElem?_toArray, List.getElem?_cons_succ, List.getElem?_cons_zero]; rfl) | rfl) (fun K hK => ?_) (AllReadyH.cons (by first | (simp only [List.getElem?_toArray, List.getElem?_cons_succ, List.getElem?_cons_zero]; rfl) | rfl) (fun K hK => ?_) AllReadyH.nil)
      · skip
        go_simp
        refine (HRC.out W1.drew (Below.refl _ _).drew).mono ?_
        rintro e wk ⟨hbk, A4, c4, rfl, hk1, hk2, hk3, hk4, -⟩
        dsimp only
        have hba : Below W1.heap.size W1 wk := (Below.refl _ _).drew.trans hbk
        have hxk := (hba.block X lX).trans hx1
        have f := cells6T hxk
        refine hK.out _ _ ⟨f.1, f.2.1, f.2.2.1, f.2.2.2.1, f.2.2.2.2.1, f.2.2.2.2.2.1⟩ (fun hHeld => ?_)
        clear hK K f
        try simp only [Act.put, List.setIfInBounds_toArray, List.set_cons_zero, List.set_cons_succ]
        refine wpAnyH_ready (rs := [10]) (by kernel_rfl) (by simp) ?_
        refine AllReadyH.cons (by first | (simp only [List.getElem?_toArray, List.getElem?_cons_succ, List.getElem?_cons_zero]; rfl) | rfl) (fun K hK => ?_) AllReadyH.nil
        go_simp
        show K _ (wk.alloc (.cells #[] 9))
        obtain ⟨wv, hwv⟩ : ∃ wv, (wk.alloc (.cells #[] 9)) = wv := ⟨_, rfl⟩
        have hbv : Below wk.heap.size wk wv := by rw [← hwv]; exact ((Below.refl _ _).alloc (Nat.le_refl _) _)
        have hvs : wv.heap.size = wk.heap.size + 1 := by rw [← hwv]; exact World.size_alloc _ _
        have hov : OwnS wv W1.heap.size (.slice (some ⟨wk.heap.size, 0, none⟩) 0 0) [] := by rw [← hwv]; exact own_void wk 9 1 W1.heap.size hba.size
        rw [hwv]
        clear hwv
        have hbv1 := hba.trans (hbv.mono hba.size)
        have hxv := (hbv1.block X lX).trans hx1
        have f := cells6T hxv
        refine hK.out _ _ ⟨f.1, f.2.1, f.2.2.1, f.2.2.2.1, f.2.2.2.2.1, f.2.2.2.2.2.1⟩ (fun hHeld => ?_)
        clear hK K f
        try simp only [Act.put, List.setIfInBounds_toArray, List.set_cons_zero, List.set_cons_succ]
        refine wpAnyH_ready (rs := [13]) (by kernel_rfl) (by simp) ?_
        refine AllReadyH.cons (by first | (simp only [List.getElem?_toArray, List.getElem?_cons_succ, List.getElem?_cons_zero]; rfl) | rfl) (fun K hK => ?_) AllReadyH.nil
        refine step_append_s (base := W1.heap.size) (v := .slice (some ⟨wk.heap.size, 0, none⟩) 0 0) (xs := []) (news := x.ns) rfl _ _ rfl rfl rfl hov ((rd_of_sr (HNR.out.1.below ((HB1.out.trans (hbv1.mono HB1.out.size)).mono (by omega)) (Nat.le_refl _))).more (by have := hbv1.size; have := HB1.out.size; omega)) HAN.out (cs_one x.ns) (by simp) hnx hbv1.size ?_
        intro A9 t9 c9 wn HT9 HO9 HB9
        have ht9 : t9 = x.ns := by rw [HT9.out, List.nil_append]
        subst ht9
        have hkn : ∀ k, k < wv.heap.size → k ≠ wk.heap.size → wn.heap[k]? = wv.heap[k]? := fun k hk hne => HB9.out.2.1 k hk (fun e => hne (by injection e))
        have hbt := hbv1.trans HB9.out.1
        have hxt := (hbt.block X lX).trans hx1
        have hent : Ent wn (Nw 0 W1.heap.size wn.heap.size) (x, (A4, x.kids.length, c4), (A9, x.ns.length, c9)) := by
          obtain ⟨z1, z2, z3, z4⟩ := sr_of_row (P := Nw 0 W1.heap.size wn.heap.size) HO9.out (fun k h1 h2 => .inr ⟨h1, h2⟩)
          refine ⟨rfl, rfl, hk1, z2, hk2, z3, hk3.keep fun k hk => ?_, z1, hk4, z4⟩
          rcases hk with hk | ⟨a, b⟩
          · exact absurd hk (Nat.not_lt_zero k)
          · have h9 := HB9.out.1.size
            exact ⟨(hkn k (by omega) (by omega)).trans (hbv.block k b), .inr ⟨a, by omega⟩⟩
        have f := cells6T hxt
        refine hK.out _ _ ⟨f.1, f.2.1, f.2.2.1, f.2.2.2.1, f.2.2.2.2.1, f.2.2.2.2.2.1⟩ (fun hHeld => ?_)
        clear hK K f
        try simp only [Act.put, List.setIfInBounds_toArray, List.set_cons_zero, List.set_cons_succ]
        refine wpAnyH_take (i := 16) (v := ?_) (by first | (simp only [List.getElem?_toArray, List.getElem?_cons_succ, List.getElem?_cons_zero]; rfl) | rfl) (by kernel_rfl) (by kernel_rfl) (by kernel_rfl) (fun _ _ _ h => h) (Or.inl ⟨by rfl, ?_⟩) (by assumption) ?_
        rotate_left 1
        · (intro w' hSw; (try dsimp only at hSw); go_simp; (try with_reducible rfl))
        try simp only [Act.put, List.setIfInBounds_toArray, List.set_cons_zero, List.set_cons_succ]
        refine wpAnyH_ready (rs := [17]) (by kernel_rfl) (by simp) ?_
        refine AllReadyH.cons (by first | (simp only [List.getElem?_toArray, List.getElem?_cons_succ, List.getElem?_cons_zero]; rfl) | rfl) (fun K hK => ?_) AllReadyH.nil
        go_simp
        show K _ (wn.alloc (.cells (ne6 (x, (A4, x.kids.length, c4), (A9, x.ns.length, c9))).toArray 47))
        have hyr := ne_oneT 47 wn (x, (A4, x.kids.length, c4), (A9, x.ns.length, c9))
        have hbu : Below wn.heap.size wn (wn.alloc (.cells (ne6 (x, (A4, x.kids.length, c4), (A9, x.ns.length, c9))).toArray 47)) := (Below.refl _ _).alloc (Nat.le_refl _) _
        generalize (wn.alloc (.cells (ne6 (x, (A4, x.kids.length, c4), (A9, x.ns.length, c9))).toArray 47)) = wu at *
        have hxu := (hbu.block X (lt_of_blk hxt)).trans hxt
        have f := cells6T hxu
        refine hK.out _ _ ⟨f.1, f.2.1, f.2.2.1, f.2.2.2.1, f.2.2.2.2.1, f.2.2.2.2.2.1⟩ (fun hHeld => ?_)
        clear hK K f
        try simp only [Act.put, List.setIfInBounds_toArray, List.set_cons_zero, List.set_cons_succ]
        refine wpAnyH_ready (rs := [18]) (by kernel_rfl) (by simp) ?_
        refine AllReadyH.cons (by first | (simp only [List.getElem?_toArray, List.getElem?_cons_succ, List.getElem?_cons_zero]; rfl) | rfl) (fun K hK => ?_) AllReadyH.nil
        have hbw1 : Below wr.heap.size wr wu := HB1.out.trans ((hbt.trans (hbu.mono hbt.size)).mono HB1.out.size)
        refine step_append_p (base := w.heap.size) (v := .slice A2 es.length c2) (xs := es) (news := [(x, (A4, x.kids.length, c4), (A9, x.ns.length, c9))]) rfl _ _ rfl rfl rfl (HF.out.own.below hbw1) hyr (fun h => by cases h) (by have := hei.out; omega) (by simp) (Nat.le_trans hws hbw1.size) ?_
        intro A7 t7 c7 w7 HT7 HO7 HB7
        have hXo : some X ≠ (Value.slice A2 es.length c2).ownBlock := fun e => by have := (World.ownsRow.lt HF.out.own X e.symm).2; have := HX.out; omega
        have hx7 := (HB7.out.1.block X (lt_of_blk hxu) hXo).trans hxu
        have f := cells6T hx7
        refine hK.out _ _ ⟨f.1, f.2.1, f.2.2.1, f.2.2.2.1, f.2.2.2.2.1, f.2.2.2.2.2.1⟩ (fun hHeld => ?_)
        clear hK K f
        try simp only [Act.put, List.setIfInBounds_toArray, List.set_cons_zero, List.set_cons_succ]
        refine wpAnyH_take (i := 19) (v := ?_) (by first | (simp only [List.getElem?_toArray, List.getElem?_cons_succ, List.getElem?_cons_zero]; rfl) | rfl) (by kernel_rfl) (by kernel_rfl) (by kernel_rfl) (fun _ _ _ h => h) (Or.inl ⟨by rfl, ?_⟩) (by assumption) ?_
        rotate_left 1
        · (intro w' hSw; (try dsimp only at hSw); go_simp; (try with_reducible rfl))
        try simp only [Act.put, List.setIfInBounds_toArray, List.set_cons_zero, List.set_cons_succ]
        refine wpAnyH_done (by kernel_rfl) ?_ _
        refine HKK.out _ _ ?_
        have hF7 := NodI.more (x := (x, (A4, x.kids.length, c4), (A9, x.ns.length, c9))) HF.out hbw1 (hent.keep fun k hk => by
          rcases hk with hk | ⟨a, b⟩
          · exact absurd hk (Nat.not_lt_zero k)
          · have h1 := HB1.out.size
            have h2 := hbu.size
            exact ⟨hbu.block k b, .inr ⟨by omega, by omega⟩⟩) (by rw [← HT7.out]; exact HO7.out) HB7.out.1 HB7.out.2
        rw [← HT7.out] at hF7
        have HF7 := Lib.hid hF7
        clear hF7 hx7 hxu hyr hbu hbw1 hXo hxt hbt hent
        go_wp2_with fail
        go_roundw
        case rel => exact ⟨i + 1, t7, A7, c7, by omega, rfl, by simp, Lib.hid (by rw [HT7.out, List.length_append, List.length_singleton, hei.out]), HF7, Lib.hid (by rw [HT7.out, List.map_append, ← HMn.out]; rfl)⟩
        case measure => simp [intOf]; omega
      · skip
        go_simp
        show K _ (W1.alloc (.cells #[] 9)).drew
        obtain ⟨wv, hwv⟩ : ∃ wv, (W1.alloc (.cells #[] 9)).drew = wv := ⟨_, rfl⟩
        have hbv : Below W1.heap.size W1 wv := by rw [← hwv]; exact ((Below.refl _ _).alloc (Nat.le_refl _) _).drew
        have hvs : wv.heap.size = W1.heap.size + 1 := by rw [← hwv]; exact World.size_alloc _ _
        have hov : OwnS wv W1.heap.size (.slice (some ⟨W1.heap.size, 0, none⟩) 0 0) [] := by rw [← hwv]; exact own_void W1 9 1 W1.heap.size (Nat.le_refl _)
        rw [hwv]
        clear hwv
        have hxv := (hbv.block X lX).trans hx1
        have f := cells6T hxv
        refine hK.out _ _ ⟨f.1, f.2.1, f.2.2.1, f.2.2.2.1, f.2.2.2.2.1, f.2.2.2.2.2.1⟩ (fun hHeld => ?_)
        clear hK K f
        try simp only [Act.put, List.setIfInBounds_toArray, List.set_cons_zero, List.set_cons_succ]
        refine wpAnyH_ready (rs := [9]) (by kernel_rfl) (by simp) ?_
        refine AllReadyH.cons (by first | (simp only [List.getElem?_toArray, List.getElem?_cons_succ, List.getElem?_cons_zero]; rfl) | rfl) (fun K hK => ?_) AllReadyH.nil
        go_simp
        refine (HRC.out wv hbv).mono ?_
        rintro e wk ⟨hbk, A4, c4, rfl, hk1, hk2, hk3, hk4, -⟩
        dsimp only
        have hba : Below W1.heap.size W1 wk := hbv.trans (hbk.mono hbv.size)
        have hxk := (hba.block X lX).trans hx1
        have hov2 : OwnS wk W1.heap.size (.slice (some ⟨W1.heap.size, 0, none⟩) 0 0) [] := hov.below hbk
        have f := cells6T hxk
        refine hK.out _ _ ⟨f.1, f.2.1, f.2.2.1, f.2.2.2.1, f.2.2.2.2.1, f.2.2.2.2.2.1⟩ (fun hHeld => ?_)
        clear hK K f
        try simp only [Act.put, List.setIfInBounds_toArray, List.set_cons_zero, List.set_cons_succ]
        refine wpAnyH_ready (rs := [13]) (by kernel_rfl) (by simp) ?_
        refine AllReadyH.cons (by first | (simp only [List.getElem?_toArray, List.getElem?_cons_succ, List.getElem?_cons_zero]; rfl) | rfl) (fun K hK => ?_) AllReadyH.nil
        refine step_append_s (base := W1.heap.size) (v := .slice (some ⟨W1.heap.size, 0, none⟩) 0 0) (xs := []) (news := x.ns) rfl _ _ rfl rfl rfl hov2 ((rd_of_sr (HNR.out.1.below ((HB1.out.trans (hba.mono HB1.out.size)).mono (by omega)) (Nat.le_refl _))).more (by have := hba.size; have := HB1.out.size; omega)) HAN.out (cs_one x.ns) (by simp) hnx hba.size ?_
        intro A9 t9 c9 wn HT9 HO9 HB9
        have ht9 : t9 = x.ns := by rw [HT9.out, List.nil_append]
        subst ht9
        have hkn : ∀ k, k < wk.heap.size → k ≠ W1.heap.size → wn.heap[k]? = wk.heap[k]? := fun k hk hne => HB9.out.2.1 k hk (fun e => hne (by injection e))
        have hbt := hba.trans HB9.out.1
        have hxt := (hbt.block X lX).trans hx1
        have hent : Ent wn (Nw 0 W1.heap.size wn.heap.size) (x, (A4, x.kids.length, c4), (A9, x.ns.length, c9)) := by
          obtain ⟨z1, z2, z3, z4⟩ := sr_of_row (P := Nw 0 W1.heap.size wn.heap.size) HO9.out (fun k h1 h2 => .inr ⟨h1, h2⟩)
          refine ⟨rfl, rfl, hk1, z2, hk2, z3, hk3.keep fun k hk => ?_, z1, hk4, z4⟩
          rcases hk with hk | ⟨a, b⟩
          · exact absurd hk (Nat.not_lt_zero k)
          · have h9 := HB9.out.1.size
            exact ⟨hkn k b (by omega), .inr ⟨by omega, by omega⟩⟩
        have f := cells6T hxt
        refine hK.out _ _ ⟨f.1, f.2.1, f.2.2.1, f.2.2.2.1, f.2.2.2.2.1, f.2.2.2.2.2.1⟩ (fun hHeld => ?_)
        clear hK K f
        try simp only [Act.put, List.setIfInBounds_toArray, List.set_cons_zero, List.set_cons_succ]
        refine wpAnyH_take (i := 16) (v := ?_) (by first | (simp only [List.getElem?_toArray, List.getElem?_cons_succ, List.getElem?_cons_zero]; rfl) | rfl) (by kernel_rfl) (by kernel_rfl) (by kernel_rfl) (fun _ _ _ h => h) (Or.inl ⟨by rfl, ?_⟩) (by assumption) ?_
        rotate_left 1
        · (intro w' hSw; (try dsimp only at hSw); go_simp; (try with_reducible rfl))
        try simp only [Act.put, List.setIfInBounds_toArray, List.set_cons_zero, List.set_cons_succ]
        refine wpAnyH_ready (rs := [17]) (by kernel_rfl) (by simp) ?_
        refine AllReadyH.cons (by first | (simp only [List.getElem?_toArray, List.getElem?_cons_succ, List.getElem?_cons_zero]; rfl) | rfl) (fun K hK => ?_) AllReadyH.nil
        go_simp
        show K _ (wn.alloc (.cells (ne6 (x, (A4, x.kids.length, c4), (A9, x.ns.length, c9))).toArray 47))
        have hyr := ne_oneT 47 wn (x, (A4, x.kids.length, c4), (A9, x.ns.length, c9))
        have hbu : Below wn.heap.size wn (wn.alloc (.cells (ne6 (x, (A4, x.kids.length, c4), (A9, x.ns.length, c9))).toArray 47)) := (Below.refl _ _).alloc (Nat.le_refl _) _
        generalize (wn.alloc (.cells (ne6 (x, (A4, x.kids.length, c4), (A9, x.ns.length, c9))).toArray 47)) = wu at *
        have hxu := (hbu.block X (lt_of_blk hxt)).trans hxt
        have f := cells6T hxu
        refine hK.out _ _ ⟨f.1, f.2.1, f.2.2.1, f.2.2.2.1, f.2.2.2.2.1, f.2.2.2.2.2.1⟩ (fun hHeld => ?_)
        clear hK K f
        try simp only [Act.put, List.setIfInBounds_toArray, List.set_cons_zero, List.set_cons_succ]
        refine wpAnyH_ready (rs := [18]) (by kernel_rfl) (by simp) ?_
        refine AllReadyH.cons (by first | (simp only [List.getElem?_toArray, List.getElem?_cons_succ, List.getElem?_cons_zero]; rfl) | rfl) (fun K hK => ?_) AllReadyH.nil
        have hbw1 : Below wr.heap.size wr wu := HB1.out.trans ((hbt.trans (hbu.mono hbt.size)).mono HB1.out.size)
        refine step_append_p (base := w.heap.size) (v := .slice A2 es.length c2) (xs := es) (news := [(x, (A4, x.kids.length, c4), (A9, x.ns.length, c9))]) rfl _ _ rfl rfl rfl (HF.out.own.below hbw1) hyr (fun h => by cases h) (by have := hei.out; omega) (by simp) (Nat.le_trans hws hbw1.size) ?_
        intro A7 t7 c7 w7 HT7 HO7 HB7
        have hXo : some X ≠ (Value.slice A2 es.length c2).ownBlock := fun e => by have := (World.ownsRow.lt HF.out.own X e.symm).2; have := HX.out; omega
        have hx7 := (HB7.out.1.block X (lt_of_blk hxu) hXo).trans hxu
        have f := cells6T hx7
        refine hK.out _ _ ⟨f.1, f.2.1, f.2.2.1, f.2.2.2.1, f.2.2.2.2.1, f.2.2.2.2.2.1⟩ (fun hHeld => ?_)
        clear hK K f
        try simp only [Act.put, List.setIfInBounds_toArray, List.set_cons_zero, List.set_cons_succ]
        refine wpAnyH_take (i := 19) (v := ?_) (by first | (simp only [List.getElem?_toArray, List.getElem?_cons_succ, List.getElem?_cons_zero]; rfl) | rfl) (by kernel_rfl) (by kernel_rfl) (by kernel_rfl) (fun _ _ _ h => h) (Or.inl ⟨by rfl, ?_⟩) (by assumption) ?_
        rotate_left 1
        · (intro w' hSw; (try dsimp only at hSw); go_simp; (try with_reducible rfl))
        try simp only [Act.put, List.setIfInBounds_toArray, List.set_cons_zero, List.set_cons_succ]
        refine wpAnyH_done (by kernel_rfl) ?_ _
        refine HKK.out _ _ ?_
        have hF7 := NodI.more (x := (x, (A4, x.kids.length, c4), (A9, x.ns.length, c9))) HF.out hbw1 (hent.keep fun k hk => by
          rcases hk with hk | ⟨a, b⟩
          · exact absurd hk (Nat.not_lt_zero k)
          · have h1 := HB1.out.size
            have h2 := hbu.size
            exact ⟨hbu.block k b, .inr ⟨by omega, by omega⟩⟩) (by rw [← HT7.out]; exact HO7.out) HB7.out.1 HB7.out.2
        rw [← HT7.out] at hF7
        have HF7 := Lib.hid hF7
        clear hF7 hx7 hxu hyr hbu hbw1 hXo hxt hbt hent
        go_wp2_with fail
        go_roundw
        case rel => exact ⟨i + 1, t7, A7, c7, by omega, rfl, by simp, Lib.hid (by rw [HT7.out, List.length_append, List.length_singleton, hei.out]), HF7, Lib.hid (by rw [HT7.out, List.map_append, ← HMn.out]; rfl)⟩
        case measure => simp [intOf]; omega
end Go.Proofs.YtfcceojfcmgmlaaGreatDoor.Fl

/-
  The program's method out of the document's: Own.
-/
namespace Go.Proofs.YtfcceojfcmgmlaaGreatDoor.Fl
open Go.RowKit Go.Shelf

theorem sr_of_row2 {w : World} {P : Nat → Prop} {base c : Nat} {A : Option Addr} {l : List (List UInt8)} (h : OwnS w base (.slice A l.length c) l) (hP : ∀ k, (Value.slice A l.length c).ownBlock = some k → base ≤ k → k < w.heap.size → P k) : SrAt w P A l ∧ l.length ≤ c ∧ c ≤ 9223372036854775807 ∧ (A = none → l = []) := by
  have hlo := World.ownsRow.lt h
  obtain ⟨z1, z2, z3, z4⟩ := sr_of_row (P := fun k => (Value.slice A l.length c).ownBlock = some k → P k) h (fun k h1 h2 ho => hP k ho h1 h2)
  refine ⟨?_, z2, z3, z4⟩
  rcases z1 with e | ⟨b, off, rfl, hb, hc⟩
  · exact .inl e
  · exact .inr ⟨b, off, rfl, hb rfl, hc⟩
theorem OwnS.keepB {w w' : World} {base : Nat} {v : Value} {xs : List (List UInt8)} (h : OwnS w base v xs) (hk : ∀ k, v.ownBlock = some k → w'.heap[k]? = w.heap[k]?) : OwnS w' base v xs :=
  ⟨h.1, h.2.elim .inl fun ⟨g, cap, cur, hv, hbg, hg, r⟩ => .inr ⟨g, cap, cur, hv, hbg, (hk g (by rw [hv]; rfl)).trans hg, r⟩⟩
theorem OwnP.keepB {w w' : World} {base base' : Nat} {v : Value} {xs : List NE} (h : OwnP w base' v xs) (hb : base ≤ base') (hk : ∀ k, base' ≤ k → k < w.heap.size → w'.heap[k]? = w.heap[k]?) : OwnP w' base v xs :=
  ⟨h.1, h.2.elim .inl fun ⟨g, cap, cur, hv, hbg, hg, r⟩ => .inr ⟨g, cap, cur, hv, Nat.le_trans hb hbg, (hk g hbg (lt_of_blk hg)).trans hg, r⟩⟩
theorem own_result {W : World} {C : Nat} {v0 v1 v2 v3 v4 v5 : Value} {a : Array Value} (h : W.heap[C]? = some (.cells #[v0, v1, v2, v3, v4, v5] 30 (0, 0))) (h2 : a[2]?.getD undef = .pointer (some ⟨C, 0, none⟩)) :
    (results Tryz.f9 a).run Tryz.prog W = .ok (.agg #[v0, v1, v2, v3, v4, v5]) W := by
  obtain ⟨c0, c1, c2, c3, c4, c5, _⟩ := cells6T h
  simp [results, Tryz.results9, go_sem, h2, c0, c1, c2, c3, c4, c5]
set_option maxRecDepth 100000 in
set_option maxHeartbeats 8000000 in
theorem own_any (m : Me) (v : Value) (B : Nat) (w : World) (h : MeAt w (Lo B) v m) (hB : B ≤ w.heap.size) (hps : m.ps.length ≤ 100000000) (hts : m.ts.length ≤ 100000000) (hbd : cntL m.bd ≤ 10000000) (hns : ∀ y ∈ allL m.bd, y.ns.length ≤ 100000000) :
    Calls Tryz.prog 9 #[v] w fun e w' => ∃ v', e = .returned v' ∧ MeAt w' (Nw 0 w.heap.size w'.heap.size) v' m ∧ Below w.heap.size w w' ∧
      ∃ (s1 s2 : Value) (A4 : Option Addr) (c4 : Nat) (es : List NE), v' = .agg #[.string (mkB m.nm), s1, s2, .int .i64 m.pr, .slice A4 m.bd.length c4, .int .i64 m.at_] ∧ es.map (fun x => x.1) = m.bd ∧ OwnP w' w.heap.size (.slice A4 m.bd.length c4) es ∧ ∀ x ∈ es, Ent w' (Nx 0 w.heap.size w'.heap.size (.slice A4 m.bd.length c4)) x := by
  obtain ⟨Ap, cp, At, ct, Ab, cb, rfl, h1, h2, h3, h4, h5, h6, s1, s2, s3, n1, n2, n3⟩ := (h.below (Below.refl _ _) hB).ex
  clear h
  have HS := Lib.hid (And.intro s1 s2)
  have HAP := Lib.hid (show Ap = none → m.ps.length = 0 from fun e => by rw [n1 e]; rfl)
  have HAT := Lib.hid (show At = none → m.ts.length = 0 from fun e => by rw [n2 e]; rfl)
  obtain ⟨T, hT⟩ : ∃ T, w.heap.size = T := ⟨_, rfl⟩
  obtain ⟨W1, hW1⟩ : ∃ W, (w.alloc (.cells #[.string (mkB m.nm), .slice Ap m.ps.length cp, .slice At m.ts.length ct, .int .i64 m.pr, .slice Ab m.bd.length cb, .int .i64 m.at_] 25)).alloc (.cells #[.string ⟨#[]⟩, .slice none 0 0, .slice none 0 0, .int .i64 0, .slice none 0 0, .int .i64 0] 30) = W := ⟨_, rfl⟩
  obtain ⟨q1, q2, hb⟩ := boxes2T w _ _ W1 hW1
  rw [hT] at q1 q2
  have HRC : Hid (∀ w', Below W1.heap.size W1 w' → Calls Tryz.prog 24 #[.slice Ab m.bd.length cb] w' (NodT w' m.bd)) :=
    Lib.hid (fun w' hb' => nodes_any (cntL m.bd) m.bd Ab cb w.heap.size w' (Nat.le_refl _) hbd hns (s3.below (hb.trans (hb'.mono hb.size)) (Nat.le_refl _)) (Nat.le_trans hb.size hb'.size) h5 h6)
  go_enter Tryz.func9, Tryz.ntmps9
  go_upto_region 1 with fail
  try simp only [hW1]
  try simp only [hT]
  rename_i KK hKK
  have HKK := Lib.hid hKK
  clear hKK
  have HTT : Hid (w.heap.size ≤ T + 1) := Lib.hid (by omega)
  have HT := Lib.hid hT
  have HQ := Lib.hid (And.intro q1 q2)
  have HB1 := Lib.hid hb
  have lT := lt_of_blk q1
  have lR := lt_of_blk q2
  clear hW1 hT hb s1 s2 s3 n1 n2 n3 hns
  have f1 := cells6T q1
  have hS : (fun w' : World => w'.cell? ⟨T, 0, none⟩ = some (.string (mkB m.nm)) ∧ w'.cell? ⟨T, 1, none⟩ = some (.slice Ap m.ps.length cp) ∧ w'.cell? ⟨T, 2, none⟩ = some (.slice At m.ts.length ct) ∧ w'.cell? ⟨T, 3, none⟩ = some (.int .i64 m.pr) ∧ w'.cell? ⟨T, 4, none⟩ = some (.slice Ab m.bd.length cb) ∧ w'.cell? ⟨T, 5, none⟩ = some (.int .i64 m.at_)) W1.drew := ⟨f1.1, f1.2.1, f1.2.2.1, f1.2.2.2.1, f1.2.2.2.2.1, f1.2.2.2.2.2.1⟩
  refine wp_region_noPanic ?_
  refine wp_region_held_drew (S := (fun w' : World => w'.cell? ⟨T, 0, none⟩ = some (.string (mkB m.nm)) ∧ w'.cell? ⟨T, 1, none⟩ = some (.slice Ap m.ps.length cp) ∧ w'.cell? ⟨T, 2, none⟩ = some (.slice At m.ts.length ct) ∧ w'.cell? ⟨T, 3, none⟩ = some (.int .i64 m.pr) ∧ w'.cell? ⟨T, 4, none⟩ = some (.slice Ab m.bd.length cb) ∧ w'.cell? ⟨T, 5, none⟩ = some (.int .i64 m.at_))) (by kernel_rfl) hS (fun hHeld => ?_)
  clear hS f1 q1 q2
  refine wpAnyH_take (i := 0) (v := ?_) (by first | (simp only [List.getElem?_toArray, List.getElem?_cons_succ, List.getElem?_cons_zero]; rfl) | rfl) (by kernel_rfl) (by kernel_rfl) (by kernel_rfl) (fun _ _ _ h => h) (Or.inl ⟨by rfl, ?_⟩) (by assumption) ?_
  rotate_left 1
  · (intro w' hSw; (try dsimp only at hSw); go_simp; (try with_reducible rfl))
  try simp only [Act.put, List.setIfInBounds_toArray, List.set_cons_zero, List.set_cons_succ]
  refine wpAnyH_take (i := 1) (v := ?_) (by first | (simp only [List.getElem?_toArray, List.getElem?_cons_succ, List.getElem?_cons_zero]; rfl) | rfl) (by kernel_rfl) (by kernel_rfl) (by kernel_rfl) (fun _ _ _ h => h) (Or.inl ⟨by rfl, ?_⟩) (by assumption) ?_
  rotate_left 1
  · (intro w' hSw; (try dsimp only at hSw); go_simp; (try with_reducible rfl))
  try simp only [Act.put, List.setIfInBounds_toArray, List.set_cons_zero, List.set_cons_succ]
  refine wpAnyH_take (i := 3) (v := ?_) (by first | (simp only [List.getElem?_toArray, List.getElem?_cons_succ, List.getElem?_cons_zero]; rfl) | rfl) (by kernel_rfl) (by kernel_rfl) (by kernel_rfl) (fun _ _ _ h => h) (Or.inl ⟨by rfl, ?_⟩) (by assumption) ?_
  rotate_left 1
  · (intro w' hSw; (try dsimp only at hSw); go_simp; (try with_reducible rfl))
  try simp only [Act.put, List.setIfInBounds_toArray, List.set_cons_zero, List.set_cons_succ]
  refine wpAnyH_take (i := 4) (v := ?_) (by first | (simp only [List.getElem?_toArray, List.getElem?_cons_succ, List.getElem?_cons_zero]; rfl) | rfl) (by kernel_rfl) (by kernel_rfl) (by kernel_rfl) (fun _ _ _ h => h) (Or.inl ⟨by rfl, ?_⟩) (by assumption) ?_
  rotate_left 1
  · (intro w' hSw; (try dsimp only at hSw); go_simp; (try with_reducible rfl))
  try simp only [Act.put, List.setIfInBounds_toArray, List.set_cons_zero, List.set_cons_succ]
  refine wpAnyH_take (i := 7) (v := ?_) (by first | (simp only [List.getElem?_toArray, List.getElem?_cons_succ, List.getElem?_cons_zero]; rfl) | rfl) (by kernel_rfl) (by kernel_rfl) (by kernel_rfl) (fun _ _ _ h => h) (Or.inl ⟨by rfl, ?_⟩) (by assumption) ?_
  rotate_left 1
  · (intro w' hSw; (try dsimp only at hSw); go_simp; (try with_reducible rfl))
  try simp only [Act.put, List.setIfInBounds_toArray, List.set_cons_zero, List.set_cons_succ]
  refine wpAnyH_take (i := 8) (v := ?_) (by first | (simp only [List.getElem?_toArray, List.getElem?_cons_succ, List.getElem?_cons_zero]; rfl) | rfl) (by kernel_rfl) (by kernel_rfl) (by kernel_rfl) (fun _ _ _ h => h) (Or.inl ⟨by rfl, ?_⟩) (by assumption) ?_
  rotate_left 1
  · (intro w' hSw; (try dsimp only at hSw); go_simp; (try with_reducible rfl))
  try simp only [Act.put, List.setIfInBounds_toArray, List.set_cons_zero, List.set_cons_succ]
  refine wpAnyH_take (i := 10) (v := ?_) (by first | (simp only [List.getElem?_toArray, List.getElem?_cons_succ, List.getElem?_cons_zero]; rfl) | rfl) (by kernel_rfl) (by kernel_rfl) (by kernel_rfl) (fun _ _ _ h => h) (Or.inl ⟨by rfl, ?_⟩) (by assumption) ?_
  rotate_left 1
  · (intro w' hSw; (try dsimp only at hSw); go_simp; (try with_reducible rfl))
  try simp only [Act.put, List.setIfInBounds_toArray, List.set_cons_zero, List.set_cons_succ]
  refine wpAnyH_take (i := 11) (v := ?_) (by first | (simp only [List.getElem?_toArray, List.getElem?_cons_succ, List.getElem?_cons_zero]; rfl) | rfl) (by kernel_rfl) (by kernel_rfl) (by kernel_rfl) (fun _ _ _ h => h) (Or.inl ⟨by rfl, ?_⟩) (by assumption) ?_
  rotate_left 1
  · (intro w' hSw; (try dsimp only at hSw); go_simp; (try with_reducible rfl))
  try simp only [Act.put, List.setIfInBounds_toArray, List.set_cons_zero, List.set_cons_succ]
  refine wpAnyH_take (i := 12) (v := ?_) (by first | (simp only [List.getElem?_toArray, List.getElem?_cons_succ, List.getElem?_cons_zero]; rfl) | rfl) (by kernel_rfl) (by kernel_rfl) (by kernel_rfl) (fun _ _ _ h => h) (Or.inl ⟨by rfl, ?_⟩) (by assumption) ?_
  rotate_left 1
  · (intro w' hSw; (try dsimp only at hSw); go_simp; (try with_reducible rfl))
  try simp only [Act.put, List.setIfInBounds_toArray, List.set_cons_zero, List.set_cons_succ]
  refine wpAnyH_take (i := 13) (v := ?_) (by first | (simp only [List.getElem?_toArray, List.getElem?_cons_succ, List.getElem?_cons_zero]; rfl) | rfl) (by kernel_rfl) (by kernel_rfl) (by kernel_rfl) (fun _ _ _ h => h) (Or.inl ⟨by rfl, ?_⟩) (by assumption) ?_
  rotate_left 1
  · (intro w' hSw; (try dsimp only at hSw); go_simp; (try with_reducible rfl))
  try simp only [Act.put, List.setIfInBounds_toArray, List.set_cons_zero, List.set_cons_succ]
  refine wpAnyH_take (i := 15) (v := ?_) (by first | (simp only [List.getElem?_toArray, List.getElem?_cons_succ, List.getElem?_cons_zero]; rfl) | rfl) (by kernel_rfl) (by kernel_rfl) (by kernel_rfl) (fun _ _ _ h => h) (Or.inl ⟨by rfl, ?_⟩) (by assumption) ?_
  rotate_left 1
  · (intro w' hSw; (try dsimp only at hSw); go_simp; (try with_reducible rfl))
  try simp only [Act.put, List.setIfInBounds_toArray, List.set_cons_zero, List.set_cons_succ]
  refine wpAnyH_take (i := 16) (v := ?_) (by first | (simp only [List.getElem?_toArray, List.getElem?_cons_succ, List.getElem?_cons_zero]; rfl) | rfl) (by kernel_rfl) (by kernel_rfl) (by kernel_rfl) (fun _ _ _ h => h) (Or.inl ⟨by rfl, ?_⟩) (by assumption) ?_
  rotate_left 1
  · (intro w' hSw; (try dsimp only at hSw); go_simp; (try with_reducible rfl))
  try simp only [Act.put, List.setIfInBounds_toArray, List.set_cons_zero, List.set_cons_succ]
  refine wpAnyH_ready (rs := [2, 6]) (by kernel_rfl) (by simp) ?_
  refine AllReadyH.cons (by first | (simp only [List.getElem?_toArray, List.getElem?_cons_succ, List.getElem?_cons_zero]; rfl) | rfl) (fun K hK => ?_) (AllReadyH.cons (by first | (simp only [List.getElem?_toArray, List.getElem?_cons_succ, List.getElem?_cons_zero]; rfl) | rfl) (fun K hK => ?_) AllReadyH.nil)
  · skip
    go_simp
    show K _ (W1.alloc (.cells #[] 9)).drew
    obtain ⟨wv, hwv⟩ : ∃ wv, (W1.alloc (.cells #[] 9)).drew = wv := ⟨_, rfl⟩
    have hbwv : Below W1.heap.size W1 wv := by rw [← hwv]; exact ((Below.refl _ _).alloc (Nat.le_refl _) _).drew
    have hswv : Hid (wv.heap.size = W1.heap.size + 1) := Lib.hid (by rw [← hwv]; exact World.size_alloc _ _)
    obtain ⟨V1, hV1⟩ : ∃ V1, W1.heap.size = V1 := ⟨_, rfl⟩
    have howv : OwnS wv W1.heap.size (.slice (some ⟨V1, 0, none⟩) 0 0) [] := by rw [← hV1, ← hwv]; exact own_void W1 9 1 W1.heap.size (Below.refl W1.heap.size W1).size
    rw [hwv]
    clear hwv
    have hBwv := (Below.refl W1.heap.size W1).trans (hbwv.mono (Below.refl W1.heap.size W1).size)
    try simp only [hV1]
    have HV1 := Lib.hid hV1
    clear hV1
    have hx := (hBwv.block T lT).trans HQ.out.1
    have f := cells6T hx
    refine hK.out _ _ ⟨f.1, f.2.1, f.2.2.1, f.2.2.2.1, f.2.2.2.2.1, f.2.2.2.2.2.1⟩ (fun hHeld => ?_)
    clear hK K f hx
    try simp only [Act.put, List.setIfInBounds_toArray, List.set_cons_zero, List.set_cons_succ]
    refine wpAnyH_ready (rs := [5, 6]) (by kernel_rfl) (by simp) ?_
    refine AllReadyH.cons (by first | (simp only [List.getElem?_toArray, List.getElem?_cons_succ, List.getElem?_cons_zero]; rfl) | rfl) (fun K hK => ?_) (AllReadyH.cons (by first | (simp only [List.getElem?_toArray, List.getElem?_cons_succ, List.getElem?_cons_zero]; rfl) | rfl) (fun K hK => ?_) AllReadyH.nil)
    · skip
      refine step_append_s (base := W1.heap.size) (v := .slice (some ⟨V1, 0, none⟩) 0 0) (xs := []) (news := m.ps) rfl _ _ rfl rfl rfl howv ((rd_of_sr (HS.out.1.below (HB1.out.trans (hBwv.mono HB1.out.size)) (Nat.le_refl _))).more (Nat.le_trans HB1.out.size hBwv.size)) HAP.out (cs_one m.ps) (by simp) hps hBwv.size ?_
      intro A8 t8 c8 wn HTwn HOwn HBwn
      have htwn : t8 = m.ps := by rw [HTwn.out, List.nil_append]
      subst htwn
      have hkwn : ∀ k, k < wv.heap.size → k ≠ V1 → wn.heap[k]? = wv.heap[k]? := fun k hk hne => HBwn.out.2.1 k hk (fun e => hne (by injection e))
      have hBwn := hBwv.trans HBwn.out.1
      have hsz1 := HBwn.out.1.size
      obtain ⟨z1, z2, z3, z4⟩ := sr_of_row2 (P := fun k => W1.heap.size ≤ k ∧ k < wn.heap.size ∧ k ≠ wn.heap.size) HOwn.out (fun k ho h1 h2 => ⟨h1, h2, by
        rcases HBwn.out.2.2 with e | e
        · rw [e] at ho; injection ho with ho; have ho : V1 = k := ho; omega
        · rw [e] at ho; injection ho with ho; omega⟩)
      have hx := (hBwn.block T lT).trans HQ.out.1
      have f := cells6T hx
      refine hK.out _ _ ⟨f.1, f.2.1, f.2.2.1, f.2.2.2.1, f.2.2.2.2.1, f.2.2.2.2.2.1⟩ (fun hHeld => ?_)
      clear hK K f hx
      try simp only [Act.put, List.setIfInBounds_toArray, List.set_cons_zero, List.set_cons_succ]
      refine wpAnyH_ready (rs := [6]) (by kernel_rfl) (by simp) ?_
      refine AllReadyH.cons (by first | (simp only [List.getElem?_toArray, List.getElem?_cons_succ, List.getElem?_cons_zero]; rfl) | rfl) (fun K hK => ?_) AllReadyH.nil
      go_simp
      show K _ (wn.alloc (.cells #[] 9))
      obtain ⟨wx, hwx⟩ : ∃ wx, (wn.alloc (.cells #[] 9)) = wx := ⟨_, rfl⟩
      have hbwx : Below wn.heap.size wn wx := by rw [← hwx]; exact ((Below.refl _ _).alloc (Nat.le_refl _) _)
      have hswx : Hid (wx.heap.size = wn.heap.size + 1) := Lib.hid (by rw [← hwx]; exact World.size_alloc _ _)
      obtain ⟨V2, hV2⟩ : ∃ V2, wn.heap.size = V2 := ⟨_, rfl⟩
      have howx : OwnS wx W1.heap.size (.slice (some ⟨V2, 0, none⟩) 0 0) [] := by rw [← hV2, ← hwx]; exact own_void wn 9 1 W1.heap.size (hBwn).size
      rw [hwx]
      clear hwx
      have hBwx := (hBwn).trans (hbwx.mono (hBwn).size)
      try simp only [hV2]
      have HV2 := Lib.hid hV2
      clear hV2
      have hx := (hBwx.block T lT).trans HQ.out.1
      have f := cells6T hx
      refine hK.out _ _ ⟨f.1, f.2.1, f.2.2.1, f.2.2.2.1, f.2.2.2.2.1, f.2.2.2.2.2.1⟩ (fun hHeld => ?_)
      clear hK K f hx
      try simp only [Act.put, List.setIfInBounds_toArray, List.set_cons_zero, List.set_cons_succ]
      refine wpAnyH_ready (rs := [9]) (by kernel_rfl) (by simp) ?_
      refine AllReadyH.cons (by first | (simp only [List.getElem?_toArray, List.getElem?_cons_succ, List.getElem?_cons_zero]; rfl) | rfl) (fun K hK => ?_) AllReadyH.nil
      refine step_append_s (base := W1.heap.size) (v := .slice (some ⟨V2, 0, none⟩) 0 0) (xs := []) (news := m.ts) rfl _ _ rfl rfl rfl howx ((rd_of_sr (HS.out.2.below (HB1.out.trans (hBwx.mono HB1.out.size)) (Nat.le_refl _))).more (Nat.le_trans HB1.out.size hBwx.size)) HAT.out (cs_one m.ts) (by simp) hts hBwx.size ?_
      intro A9 t9 c9 wm HTwm HOwm HBwm
      have htwm : t9 = m.ts := by rw [HTwm.out, List.nil_append]
      subst htwm
      have hkwm : ∀ k, k < wx.heap.size → k ≠ V2 → wm.heap[k]? = wx.heap[k]? := fun k hk hne => HBwm.out.2.1 k hk (fun e => hne (by injection e))
      have hBwm := hBwx.trans HBwm.out.1
      obtain ⟨y1, y2, y3, y4⟩ := sr_of_row2 (P := fun k => W1.heap.size ≤ k ∧ k < wm.heap.size) HOwm.out (fun k _ h1 h2 => ⟨h1, h2⟩)
      have z1 : SrAt wm (fun k => W1.heap.size ≤ k ∧ k < wm.heap.size) A8 m.ps := z1.keep fun k hk => ⟨(hkwm k (Nat.lt_of_lt_of_le hk.2.1 hbwx.size) (by have := HV2.out; have := hk.2.2; omega)).trans (hbwx.block k hk.2.1), hk.1, Nat.lt_of_lt_of_le hk.2.1 (Nat.le_trans hbwx.size HBwm.out.1.size)⟩
      have hx := (hBwm.block T lT).trans HQ.out.1
      have f := cells6T hx
      refine hK.out _ _ ⟨f.1, f.2.1, f.2.2.1, f.2.2.2.1, f.2.2.2.2.1, f.2.2.2.2.2.1⟩ (fun hHeld => ?_)
      clear hK K f hx
      try simp only [Act.put, List.setIfInBounds_toArray, List.set_cons_zero, List.set_cons_succ]
      refine wpAnyH_ready (rs := [14]) (by kernel_rfl) (by simp) ?_
      refine AllReadyH.cons (by first | (simp only [List.getElem?_toArray, List.getElem?_cons_succ, List.getElem?_cons_zero]; rfl) | rfl) (fun K hK => ?_) AllReadyH.nil
      go_simp
      refine (HRC.out wm hBwm).mono ?_
      rintro e wk ⟨hbk, A4, c4, rfl, hk1, hk2, hk3, hk4, es, he1, he2, he3⟩
      dsimp only
      have hBwk := hBwm.trans (hbk.mono hBwm.size)
      have y1 := y1.keep (w' := wk) (P' := fun k => W1.heap.size ≤ k ∧ k < wk.heap.size) (fun k hk => ⟨hbk.block k hk.2, hk.1, Nat.lt_of_lt_of_le hk.2 hbk.size⟩)
      have z1 := z1.keep (w' := wk) (P' := fun k => W1.heap.size ≤ k ∧ k < wk.heap.size) (fun k hk => ⟨hbk.block k hk.2, hk.1, Nat.lt_of_lt_of_le hk.2 hbk.size⟩)
      have hx := (hBwk.block T lT).trans HQ.out.1
      have f := cells6T hx
      refine hK.out _ _ ⟨f.1, f.2.1, f.2.2.1, f.2.2.2.1, f.2.2.2.2.1, f.2.2.2.2.2.1⟩ (fun hHeld => ?_)
      clear hK K f hx
      try simp only [Act.put, List.setIfInBounds_toArray, List.set_cons_zero, List.set_cons_succ]
      refine wpAnyH_take (i := 17) (v := ?_) (by first | (simp only [List.getElem?_toArray, List.getElem?_cons_succ, List.getElem?_cons_zero]; rfl) | rfl) (by kernel_rfl) (by kernel_rfl) (by kernel_rfl) (fun _ _ _ h => h) (Or.inl ⟨by rfl, ?_⟩) (by assumption) ?_
      rotate_left 1
      · (intro w' hSw; (try dsimp only at hSw); go_simp; (try with_reducible rfl))
      try simp only [Act.put, List.setIfInBounds_toArray, List.set_cons_zero, List.set_cons_succ]
      refine wpAnyH_ready (rs := [18]) (by kernel_rfl) (by simp) ?_
      refine AllReadyH.cons (by first | (simp only [List.getElem?_toArray, List.getElem?_cons_succ, List.getElem?_cons_zero]; rfl) | rfl) (fun K hK => ?_) AllReadyH.nil
      have hr := (hBwk.block (T + 1) lR).trans HQ.out.2
      have fu := cells6T hr
      have lu := lt_of_blk hr
      go_simp
      have g1 := set6T hr (.string (mkB m.nm)) (.slice A8 m.ps.length c8) (.slice A9 m.ts.length c9) (.int .i64 m.pr) (.slice A4 m.bd.length c4) (.int .i64 m.at_)
      obtain ⟨k1, k2⟩ := six_setT (w := wk) (C := T + 1) (.string (mkB m.nm)) (.slice A8 m.ps.length c8) (.slice A9 m.ts.length c9) (.int .i64 m.pr) (.slice A4 m.bd.length c4) (.int .i64 m.at_)
      have hb2 := HB1.out.trans (hBwk.mono HB1.out.size)
      have hbe := (((((hb2.setCell (p := ⟨T + 1, 0, none⟩) HTT.out (.string (mkB m.nm))).setCell (p := ⟨T + 1, 1, none⟩) HTT.out (.slice A8 m.ps.length c8)).setCell (p := ⟨T + 1, 2, none⟩) HTT.out (.slice A9 m.ts.length c9)).setCell (p := ⟨T + 1, 3, none⟩) HTT.out (.int .i64 m.pr)).setCell (p := ⟨T + 1, 4, none⟩) HTT.out (.slice A4 m.bd.length c4)).setCell (p := ⟨T + 1, 5, none⟩) HTT.out (.int .i64 m.at_)
      have hx := (k1 T (by omega)).trans ((hBwk.block T lT).trans HQ.out.1)
      have f := cells6T hx
      refine hK.out _ _ ⟨f.1, f.2.1, f.2.2.1, f.2.2.2.1, f.2.2.2.2.1, f.2.2.2.2.2.1⟩ (fun _ => ?_)
      refine wpAnyH_done (by kernel_rfl) ?_ _
      refine HKK.out _ _ ?_
      clear hx f fu lu hr
      go_wp2_with fail
      refine bodyPost_ret (v := .agg #[.string (mkB m.nm), .slice A8 m.ps.length c8, .slice A9 m.ts.length c9, .int .i64 m.pr, .slice A4 m.bd.length c4, .int .i64 m.at_]) (own_result g1 rfl) rfl ?_
      have e1 := HB1.out.size
      have e2 := hBwm.size
      have e3 := hbk.size
      refine ⟨_, rfl, ⟨A8, c8, A9, c9, A4, c4, rfl, z2, z3, y2, y3, hk1, hk2, z1.keep fun k hk => ⟨k1 k (by have := hk.1; omega), (.inr ⟨Nat.le_trans e1 hk.1, by rw [k2]; exact hk.2⟩)⟩, y1.keep fun k hk => ⟨k1 k (by have := hk.1; omega), (.inr ⟨Nat.le_trans e1 hk.1, by rw [k2]; exact hk.2⟩)⟩, hk3.keep fun k hk => ?_, z4, y4, hk4⟩, hbe, _, _, A4, c4, es, rfl, he1, he2.keepB (Nat.le_trans e1 e2) (fun k hk _ => k1 k (by omega)), fun x hx => (he3 x hx).keep fun k hk => ?_⟩
      · rcases hk with hk | ⟨a, b⟩
        · exact absurd hk (Nat.not_lt_zero k)
        · exact ⟨k1 k (by omega), (.inr ⟨by omega, by rw [k2]; exact b⟩)⟩
      · rcases hk with hk | ⟨a, b, c⟩
        · exact absurd hk (Nat.not_lt_zero k)
        · exact ⟨k1 k (by omega), (.inr ⟨by omega, by rw [k2]; exact b, c⟩)⟩
    · skip
      go_simp
      show K _ (wv.alloc (.cells #[] 9))
      obtain ⟨wx, hwx⟩ : ∃ wx, (wv.alloc (.cells #[] 9)) = wx := ⟨_, rfl⟩
      have hbwx : Below wv.heap.size wv wx := by rw [← hwx]; exact ((Below.refl _ _).alloc (Nat.le_refl _) _)
      have hswx : Hid (wx.heap.size = wv.heap.size + 1) := Lib.hid (by rw [← hwx]; exact World.size_alloc _ _)
      obtain ⟨V2, hV2⟩ : ∃ V2, wv.heap.size = V2 := ⟨_, rfl⟩
      have howx : OwnS wx W1.heap.size (.slice (some ⟨V2, 0, none⟩) 0 0) [] := by rw [← hV2, ← hwx]; exact own_void wv 9 1 W1.heap.size (hBwv).size
      rw [hwx]
      clear hwx
      have hBwx := (hBwv).trans (hbwx.mono (hBwv).size)
      try simp only [hV2]
      have HV2 := Lib.hid hV2
      clear hV2
      have howv := howv.below hbwx
      have hx := (hBwx.block T lT).trans HQ.out.1
      have f := cells6T hx
      refine hK.out _ _ ⟨f.1, f.2.1, f.2.2.1, f.2.2.2.1, f.2.2.2.2.1, f.2.2.2.2.2.1⟩ (fun hHeld => ?_)
      clear hK K f hx
      try simp only [Act.put, List.setIfInBounds_toArray, List.set_cons_zero, List.set_cons_succ]
      refine wpAnyH_ready (rs := [5]) (by kernel_rfl) (by simp) ?_
      refine AllReadyH.cons (by first | (simp only [List.getElem?_toArray, List.getElem?_cons_succ, List.getElem?_cons_zero]; rfl) | rfl) (fun K hK => ?_) AllReadyH.nil
      refine step_append_s (base := W1.heap.size) (v := .slice (some ⟨V1, 0, none⟩) 0 0) (xs := []) (news := m.ps) rfl _ _ rfl rfl rfl howv ((rd_of_sr (HS.out.1.below (HB1.out.trans (hBwx.mono HB1.out.size)) (Nat.le_refl _))).more (Nat.le_trans HB1.out.size hBwx.size)) HAP.out (cs_one m.ps) (by simp) hps hBwx.size ?_
      intro A8 t8 c8 wn HTwn HOwn HBwn
      have htwn : t8 = m.ps := by rw [HTwn.out, List.nil_append]
      subst htwn
      have hkwn : ∀ k, k < wx.heap.size → k ≠ V1 → wn.heap[k]? = wx.heap[k]? := fun k hk hne => HBwn.out.2.1 k hk (fun e => hne (by injection e))
      have hBwn := hBwx.trans HBwn.out.1
      have hsz1 := HBwn.out.1.size
      obtain ⟨z1, z2, z3, z4⟩ := sr_of_row2 (P := fun k => W1.heap.size ≤ k ∧ k < wn.heap.size ∧ k ≠ V2) HOwn.out (fun k ho h1 h2 => ⟨h1, h2, by
        rcases HBwn.out.2.2 with e | e
        · rw [e] at ho; injection ho with ho; have ho : V1 = k := ho; have := HV1.out; have := HV2.out; have := hswv.out; have := hswx.out; omega
        · rw [e] at ho; injection ho with ho; have := HV1.out; have := HV2.out; have := hswv.out; have := hswx.out; omega⟩)
      have howx : OwnS wn W1.heap.size (.slice (some ⟨V2, 0, none⟩) 0 0) [] := howx.keepB fun k e => hkwn k (by injection e with e; have e : V2 = k := e; have := HV2.out; have := HV1.out; have := hswv.out; have := hswx.out; omega) (by injection e with e; have e : V2 = k := e; have := HV1.out; have := HV2.out; have := hswv.out; have := hswx.out; omega)
      have hx := (hBwn.block T lT).trans HQ.out.1
      have f := cells6T hx
      refine hK.out _ _ ⟨f.1, f.2.1, f.2.2.1, f.2.2.2.1, f.2.2.2.2.1, f.2.2.2.2.2.1⟩ (fun hHeld => ?_)
      clear hK K f hx
      try simp only [Act.put, List.setIfInBounds_toArray, List.set_cons_zero, List.set_cons_succ]
      refine wpAnyH_ready (rs := [9]) (by kernel_rfl) (by simp) ?_
      refine AllReadyH.cons (by first | (simp only [List.getElem?_toArray, List.getElem?_cons_succ, List.getElem?_cons_zero]; rfl) | rfl) (fun K hK => ?_) AllReadyH.nil
      refine step_append_s (base := W1.heap.size) (v := .slice (some ⟨V2, 0, none⟩) 0 0) (xs := []) (news := m.ts) rfl _ _ rfl rfl rfl howx ((rd_of_sr (HS.out.2.below (HB1.out.trans (hBwn.mono HB1.out.size)) (Nat.le_refl _))).more (Nat.le_trans HB1.out.size hBwn.size)) HAT.out (cs_one m.ts) (by simp) hts hBwn.size ?_
      intro A9 t9 c9 wm HTwm HOwm HBwm
      have htwm : t9 = m.ts := by rw [HTwm.out, List.nil_append]
      subst htwm
      have hkwm : ∀ k, k < wn.heap.size → k ≠ V2 → wm.heap[k]? = wn.heap[k]? := fun k hk hne => HBwm.out.2.1 k hk (fun e => hne (by injection e))
      have hBwm := hBwn.trans HBwm.out.1
      obtain ⟨y1, y2, y3, y4⟩ := sr_of_row2 (P := fun k => W1.heap.size ≤ k ∧ k < wm.heap.size) HOwm.out (fun k _ h1 h2 => ⟨h1, h2⟩)
      have z1 : SrAt wm (fun k => W1.heap.size ≤ k ∧ k < wm.heap.size) A8 m.ps := z1.keep fun k hk => ⟨hkwm k hk.2.1 hk.2.2, hk.1, Nat.lt_of_lt_of_le hk.2.1 HBwm.out.1.size⟩
      have hx := (hBwm.block T lT).trans HQ.out.1
      have f := cells6T hx
      refine hK.out _ _ ⟨f.1, f.2.1, f.2.2.1, f.2.2.2.1, f.2.2.2.2.1, f.2.2.2.2.2.1⟩ (fun hHeld => ?_)
      clear hK K f hx
      try simp only [Act.put, List.setIfInBounds_toArray, List.set_cons_zero, List.set_cons_succ]
      refine wpAnyH_ready (rs := [14]) (by kernel_rfl) (by simp) ?_
      refine AllReadyH.cons (by first | (simp only [List.getElem?_toArray, List.getElem?_cons_succ, List.getElem?_cons_zero]; rfl) | rfl) (fun K hK => ?_) AllReadyH.nil
      go_simp
      refine (HRC.out wm hBwm).mono ?_
      rintro e wk ⟨hbk, A4, c4, rfl, hk1, hk2, hk3, hk4, es, he1, he2, he3⟩
      dsimp only
      have hBwk := hBwm.trans (hbk.mono hBwm.size)
      have y1 := y1.keep (w' := wk) (P' := fun k => W1.heap.size ≤ k ∧ k < wk.heap.size) (fun k hk => ⟨hbk.block k hk.2, hk.1, Nat.lt_of_lt_of_le hk.2 hbk.size⟩)
      have z1 := z1.keep (w' := wk) (P' := fun k => W1.heap.size ≤ k ∧ k < wk.heap.size) (fun k hk => ⟨hbk.block k hk.2, hk.1, Nat.lt_of_lt_of_le hk.2 hbk.size⟩)
      have hx := (hBwk.block T lT).trans HQ.out.1
      have f := cells6T hx
      refine hK.out _ _ ⟨f.1, f.2.1, f.2.2.1, f.2.2.2.1, f.2.2.2.2.1, f.2.2.2.2.2.1⟩ (fun hHeld => ?_)
      clear hK K f hx
      try simp only [Act.put, List.setIfInBounds_toArray, List.set_cons_zero, List.set_cons_succ]
      refine wpAnyH_take (i := 17) (v := ?_) (by first | (simp only [List.getElem?_toArray, List.getElem?_cons_succ, List.getElem?_cons_zero]; rfl) | rfl) (by kernel_rfl) (by kernel_rfl) (by kernel_rfl) (fun _ _ _ h => h) (Or.inl ⟨by rfl, ?_⟩) (by assumption) ?_
      rotate_left 1
      · (intro w' hSw; (try dsimp only at hSw); go_simp; (try with_reducible rfl))
      try simp only [Act.put, List.setIfInBounds_toArray, List.set_cons_zero, List.set_cons_succ]
      refine wpAnyH_ready (rs := [18]) (by kernel_rfl) (by simp) ?_
      refine AllReadyH.cons (by first | (simp only [List.getElem?_toArray, List.getElem?_cons_succ, List.getElem?_cons_zero]; rfl) | rfl) (fun K hK => ?_) AllReadyH.nil
      have hr := (hBwk.block (T + 1) lR).trans HQ.out.2
      have fu := cells6T hr
      have lu := lt_of_blk hr
      go_simp
      have g1 := set6T hr (.string (mkB m.nm)) (.slice A8 m.ps.length c8) (.slice A9 m.ts.length c9) (.int .i64 m.pr) (.slice A4 m.bd.length c4) (.int .i64 m.at_)
      obtain ⟨k1, k2⟩ := six_setT (w := wk) (C := T + 1) (.string (mkB m.nm)) (.slice A8 m.ps.length c8) (.slice A9 m.ts.length c9) (.int .i64 m.pr) (.slice A4 m.bd.length c4) (.int .i64 m.at_)
      have hb2 := HB1.out.trans (hBwk.mono HB1.out.size)
      have hbe := (((((hb2.setCell (p := ⟨T + 1, 0, none⟩) HTT.out (.string (mkB m.nm))).setCell (p := ⟨T + 1, 1, none⟩) HTT.out (.slice A8 m.ps.length c8)).setCell (p := ⟨T + 1, 2, none⟩) HTT.out (.slice A9 m.ts.length c9)).setCell (p := ⟨T + 1, 3, none⟩) HTT.out (.int .i64 m.pr)).setCell (p := ⟨T + 1, 4, none⟩) HTT.out (.slice A4 m.bd.length c4)).setCell (p := ⟨T + 1, 5, none⟩) HTT.out (.int .i64 m.at_)
      have hx := (k1 T (by omega)).trans ((hBwk.block T lT).trans HQ.out.1)
      have f := cells6T hx
      refine hK.out _ _ ⟨f.1, f.2.1, f.2.2.1, f.2.2.2.1, f.2.2.2.2.1, f.2.2.2.2.2.1⟩ (fun _ => ?_)
      refine wpAnyH_done (by kernel_rfl) ?_ _
      refine HKK.out _ _ ?_
      clear hx f fu lu hr
      go_wp2_with fail
      refine bodyPost_ret (v := .agg #[.string (mkB m.nm), .slice A8 m.ps.length c8, .slice A9 m.ts.length c9, .int .i64 m.pr, .slice A4 m.bd.length c4, .int .i64 m.at_]) (own_result g1 rfl) rfl ?_
      have e1 := HB1.out.size
      have e2 := hBwm.size
      have e3 := hbk.size
      refine ⟨_, rfl, ⟨A8, c8, A9, c9, A4, c4, rfl, z2, z3, y2, y3, hk1, hk2, z1.keep fun k hk => ⟨k1 k (by have := hk.1; omega), (.inr ⟨Nat.le_trans e1 hk.1, by rw [k2]; exact hk.2⟩)⟩, y1.keep fun k hk => ⟨k1 k (by have := hk.1; omega), (.inr ⟨Nat.le_trans e1 hk.1, by rw [k2]; exact hk.2⟩)⟩, hk3.keep fun k hk => ?_, z4, y4, hk4⟩, hbe, _, _, A4, c4, es, rfl, he1, he2.keepB (Nat.le_trans e1 e2) (fun k hk _ => k1 k (by omega)), fun x hx => (he3 x hx).keep fun k hk => ?_⟩
      · rcases hk with hk | ⟨a, b⟩
        · exact absurd hk (Nat.not_lt_zero k)
        · exact ⟨k1 k (by omega), (.inr ⟨by omega, by rw [k2]; exact b⟩)⟩
      · rcases hk with hk | ⟨a, b, c⟩
        · exact absurd hk (Nat.not_lt_zero k)
        · exact ⟨k1 k (by omega), (.inr ⟨by omega, by rw [k2]; exact b, c⟩)⟩
  · skip
    go_simp
    show K _ (W1.alloc (.cells #[] 9)).drew
    obtain ⟨wx, hwx⟩ : ∃ wx, (W1.alloc (.cells #[] 9)).drew = wx := ⟨_, rfl⟩
    have hbwx : Below W1.heap.size W1 wx := by rw [← hwx]; exact ((Below.refl _ _).alloc (Nat.le_refl _) _).drew
    have hswx : Hid (wx.heap.size = W1.heap.size + 1) := Lib.hid (by rw [← hwx]; exact World.size_alloc _ _)
    obtain ⟨V2, hV2⟩ : ∃ V2, W1.heap.size = V2 := ⟨_, rfl⟩
    have howx : OwnS wx W1.heap.size (.slice (some ⟨V2, 0, none⟩) 0 0) [] := by rw [← hV2, ← hwx]; exact own_void W1 9 1 W1.heap.size (Below.refl W1.heap.size W1).size
    rw [hwx]
    clear hwx
    have hBwx := (Below.refl W1.heap.size W1).trans (hbwx.mono (Below.refl W1.heap.size W1).size)
    try simp only [hV2]
    have HV2 := Lib.hid hV2
    clear hV2
    have hx := (hBwx.block T lT).trans HQ.out.1
    have f := cells6T hx
    refine hK.out _ _ ⟨f.1, f.2.1, f.2.2.1, f.2.2.2.1, f.2.2.2.2.1, f.2.2.2.2.2.1⟩ (fun hHeld => ?_)
    clear hK K f hx
    try simp only [Act.put, List.setIfInBounds_toArray, List.set_cons_zero, List.set_cons_succ]
    refine wpAnyH_ready (rs := [2]) (by kernel_rfl) (by simp) ?_
    refine AllReadyH.cons (by first | (simp only [List.getElem?_toArray, List.getElem?_cons_succ, List.getElem?_cons_zero]; rfl) | rfl) (fun K hK => ?_) AllReadyH.nil
    go_simp
    show K _ (wx.alloc (.cells #[] 9))
    obtain ⟨wv, hwv⟩ : ∃ wv, (wx.alloc (.cells #[] 9)) = wv := ⟨_, rfl⟩
    have hbwv : Below wx.heap.size wx wv := by rw [← hwv]; exact ((Below.refl _ _).alloc (Nat.le_refl _) _)
    have hswv : Hid (wv.heap.size = wx.heap.size + 1) := Lib.hid (by rw [← hwv]; exact World.size_alloc _ _)
    obtain ⟨V1, hV1⟩ : ∃ V1, wx.heap.size = V1 := ⟨_, rfl⟩
    have howv : OwnS wv W1.heap.size (.slice (some ⟨V1, 0, none⟩) 0 0) [] := by rw [← hV1, ← hwv]; exact own_void wx 9 1 W1.heap.size (hBwx).size
    rw [hwv]
    clear hwv
    have hBwv := (hBwx).trans (hbwv.mono (hBwx).size)
    try simp only [hV1]
    have HV1 := Lib.hid hV1
    clear hV1
    have howx := howx.below hbwv
    have hx := (hBwv.block T lT).trans HQ.out.1
    have f := cells6T hx
    refine hK.out _ _ ⟨f.1, f.2.1, f.2.2.1, f.2.2.2.1, f.2.2.2.2.1, f.2.2.2.2.2.1⟩ (fun hHeld => ?_)
    clear hK K f hx
    try simp only [Act.put, List.setIfInBounds_toArray, List.set_cons_zero, List.set_cons_succ]
    refine wpAnyH_ready (rs := [5]) (by kernel_rfl) (by simp) ?_
    refine AllReadyH.cons (by first | (simp only [List.getElem?_toArray, List.getElem?_cons_succ, List.getElem?_cons_zero]; rfl) | rfl) (fun K hK => ?_) AllReadyH.nil
    refine step_append_s (base := W1.heap.size) (v := .slice (some ⟨V1, 0, none⟩) 0 0) (xs := []) (news := m.ps) rfl _ _ rfl rfl rfl howv ((rd_of_sr (HS.out.1.below (HB1.out.trans (hBwv.mono HB1.out.size)) (Nat.le_refl _))).more (Nat.le_trans HB1.out.size hBwv.size)) HAP.out (cs_one m.ps) (by simp) hps hBwv.size ?_
    intro A8 t8 c8 wn HTwn HOwn HBwn
    have htwn : t8 = m.ps := by rw [HTwn.out, List.nil_append]
    subst htwn
    have hkwn : ∀ k, k < wv.heap.size → k ≠ V1 → wn.heap[k]? = wv.heap[k]? := fun k hk hne => HBwn.out.2.1 k hk (fun e => hne (by injection e))
    have hBwn := hBwv.trans HBwn.out.1
    have hsz1 := HBwn.out.1.size
    obtain ⟨z1, z2, z3, z4⟩ := sr_of_row2 (P := fun k => W1.heap.size ≤ k ∧ k < wn.heap.size ∧ k ≠ V2) HOwn.out (fun k ho h1 h2 => ⟨h1, h2, by
      rcases HBwn.out.2.2 with e | e
      · rw [e] at ho; injection ho with ho; have ho : V1 = k := ho; have := HV1.out; have := HV2.out; have := hswv.out; have := hswx.out; omega
      · rw [e] at ho; injection ho with ho; have := HV1.out; have := HV2.out; have := hswv.out; have := hswx.out; omega⟩)
    have howx : OwnS wn W1.heap.size (.slice (some ⟨V2, 0, none⟩) 0 0) [] := howx.keepB fun k e => hkwn k (by injection e with e; have e : V2 = k := e; have := HV2.out; have := HV1.out; have := hswv.out; have := hswx.out; omega) (by injection e with e; have e : V2 = k := e; have := HV1.out; have := HV2.out; have := hswv.out; have := hswx.out; omega)
    have hx := (hBwn.block T lT).trans HQ.out.1
    have f := cells6T hx
    refine hK.out _ _ ⟨f.1, f.2.1, f.2.2.1, f.2.2.2.1, f.2.2.2.2.1, f.2.2.2.2.2.1⟩ (fun hHeld => ?_)
    clear hK K f hx
    try simp only [Act.put, List.setIfInBounds_toArray, List.set_cons_zero, List.set_cons_succ]
    refine wpAnyH_ready (rs := [9]) (by kernel_rfl) (by simp) ?_
    refine AllReadyH.cons (by first | (simp only [List.getElem?_toArray, List.getElem?_cons_succ, List.getElem?_cons_zero]; rfl) | rfl) (fun K hK => ?_) AllReadyH.nil
    refine step_append_s (base := W1.heap.size) (v := .slice (some ⟨V2, 0, none⟩) 0 0) (xs := []) (news := m.ts) rfl _ _ rfl rfl rfl howx ((rd_of_sr (HS.out.2.below (HB1.out.trans (hBwn.mono HB1.out.size)) (Nat.le_refl _))).more (Nat.le_trans HB1.out.size hBwn.size)) HAT.out (cs_one m.ts) (by simp) hts hBwn.size ?_
    intro A9 t9 c9 wm HTwm HOwm HBwm
    have htwm : t9 = m.ts := by rw [HTwm.out, List.nil_append]
    subst htwm
    have hkwm : ∀ k, k < wn.heap.size → k ≠ V2 → wm.heap[k]? = wn.heap[k]? := fun k hk hne => HBwm.out.2.1 k hk (fun e => hne (by injection e))
    have hBwm := hBwn.trans HBwm.out.1
    obtain ⟨y1, y2, y3, y4⟩ := sr_of_row2 (P := fun k => W1.heap.size ≤ k ∧ k < wm.heap.size) HOwm.out (fun k _ h1 h2 => ⟨h1, h2⟩)
    have z1 : SrAt wm (fun k => W1.heap.size ≤ k ∧ k < wm.heap.size) A8 m.ps := z1.keep fun k hk => ⟨hkwm k hk.2.1 hk.2.2, hk.1, Nat.lt_of_lt_of_le hk.2.1 HBwm.out.1.size⟩
    have hx := (hBwm.block T lT).trans HQ.out.1
    have f := cells6T hx
    refine hK.out _ _ ⟨f.1, f.2.1, f.2.2.1, f.2.2.2.1, f.2.2.2.2.1, f.2.2.2.2.2.1⟩ (fun hHeld => ?_)
    clear hK K f hx
    try simp only [Act.put, List.setIfInBounds_toArray, List.set_cons_zero, List.set_cons_succ]
    refine wpAnyH_ready (rs := [14]) (by kernel_rfl) (by simp) ?_
    refine AllReadyH.cons (by first | (simp only [List.getElem?_toArray, List.getElem?_cons_succ, List.getElem?_cons_zero]; rfl) | rfl) (fun K hK => ?_) AllReadyH.nil
    go_simp
    refine (HRC.out wm hBwm).mono ?_
    rintro e wk ⟨hbk, A4, c4, rfl, hk1, hk2, hk3, hk4, es, he1, he2, he3⟩
    dsimp only
    have hBwk := hBwm.trans (hbk.mono hBwm.size)
    have y1 := y1.keep (w' := wk) (P' := fun k => W1.heap.size ≤ k ∧ k < wk.heap.size) (fun k hk => ⟨hbk.block k hk.2, hk.1, Nat.lt_of_lt_of_le hk.2 hbk.size⟩)
    have z1 := z1.keep (w' := wk) (P' := fun k => W1.heap.size ≤ k ∧ k < wk.heap.size) (fun k hk => ⟨hbk.block k hk.2, hk.1, Nat.lt_of_lt_of_le hk.2 hbk.size⟩)
    have hx := (hBwk.block T lT).trans HQ.out.1
    have f := cells6T hx
    refine hK.out _ _ ⟨f.1, f.2.1, f.2.2.1, f.2.2.2.1, f.2.2.2.2.1, f.2.2.2.2.2.1⟩ (fun hHeld => ?_)
    clear hK K f hx
    try simp only [Act.put, List.setIfInBounds_toArray, List.set_cons_zero, List.set_cons_succ]
    refine wpAnyH_take (i := 17) (v := ?_) (by first | (simp only [List.getElem?_toArray, List.getElem?_cons_succ, List.getElem?_cons_zero]; rfl) | rfl) (by kernel_rfl) (by kernel_rfl) (by kernel_rfl) (fun _ _ _ h => h) (Or.inl ⟨by rfl, ?_⟩) (by assumption) ?_
    rotate_left 1
    · (intro w' hSw; (try dsimp only at hSw); go_simp; (try with_reducible rfl))
    try simp only [Act.put, List.setIfInBounds_toArray, List.set_cons_zero, List.set_cons_succ]
    refine wpAnyH_ready (rs := [18]) (by kernel_rfl) (by simp) ?_
    refine AllReadyH.cons (by first | (simp only [List.getElem?_toArray, List.getElem?_cons_succ, List.getElem?_cons_zero]; rfl) | rfl) (fun K hK => ?_) AllReadyH.nil
    have hr := (hBwk.block (T + 1) lR).trans HQ.out.2
    have fu := cells6T hr
    have lu := lt_of_blk hr
    go_simp
    have g1 := set6T hr (.string (mkB m.nm)) (.slice A8 m.ps.length c8) (.slice A9 m.ts.length c9) (.int .i64 m.pr) (.slice A4 m.bd.length c4) (.int .i64 m.at_)
    obtain ⟨k1, k2⟩ := six_setT (w := wk) (C := T + 1) (.string (mkB m.nm)) (.slice A8 m.ps.length c8) (.slice A9 m.ts.length c9) (.int .i64 m.pr) (.slice A4 m.bd.length c4) (.int .i64 m.at_)
    have hb2 := HB1.out.trans (hBwk.mono HB1.out.size)
    have hbe := (((((hb2.setCell (p := ⟨T + 1, 0, none⟩) HTT.out (.string (mkB m.nm))).setCell (p := ⟨T + 1, 1, none⟩) HTT.out (.slice A8 m.ps.length c8)).setCell (p := ⟨T + 1, 2, none⟩) HTT.out (.slice A9 m.ts.length c9)).setCell (p := ⟨T + 1, 3, none⟩) HTT.out (.int .i64 m.pr)).setCell (p := ⟨T + 1, 4, none⟩) HTT.out (.slice A4 m.bd.length c4)).setCell (p := ⟨T + 1, 5, none⟩) HTT.out (.int .i64 m.at_)
    have hx := (k1 T (by omega)).trans ((hBwk.block T lT).trans HQ.out.1)
    have f := cells6T hx
    refine hK.out _ _ ⟨f.1, f.2.1, f.2.2.1, f.2.2.2.1, f.2.2.2.2.1, f.2.2.2.2.2.1⟩ (fun _ => ?_)
    refine wpAnyH_done (by kernel_rfl) ?_ _
    refine HKK.out _ _ ?_
    clear hx f fu lu hr
    go_wp2_with fail
    refine bodyPost_ret (v := .agg #[.string (mkB m.nm), .slice A8 m.ps.length c8, .slice A9 m.ts.length c9, .int .i64 m.pr, .slice A4 m.bd.length c4, .int .i64 m.at_]) (own_result g1 rfl) rfl ?_
    have e1 := HB1.out.size
    have e2 := hBwm.size
    have e3 := hbk.size
    refine ⟨_, rfl, ⟨A8, c8, A9, c9, A4, c4, rfl, z2, z3, y2, y3, hk1, hk2, z1.keep fun k hk => ⟨k1 k (by have := hk.1; omega), (.inr ⟨Nat.le_trans e1 hk.1, by rw [k2]; exact hk.2⟩)⟩, y1.keep fun k hk => ⟨k1 k (by have := hk.1; omega), (.inr ⟨Nat.le_trans e1 hk.1, by rw [k2]; exact hk.2⟩)⟩, hk3.keep fun k hk => ?_, z4, y4, hk4⟩, hbe, _, _, A4, c4, es, rfl, he1, he2.keepB (Nat.le_trans e1 e2) (fun k hk _ => k1 k (by omega)), fun x hx => (he3 x hx).keep fun k hk => ?_⟩
    · rcases hk with hk | ⟨a, b⟩
      · exact absurd hk (Nat.not_lt_zero k)
      · exact ⟨k1 k (by omega), (.inr ⟨by omega, by rw [k2]; exact b⟩)⟩
    · rcases hk with hk | ⟨a, b, c⟩
      · exact absurd hk (Nat.not_lt_zero k)
      · exact ⟨k1 k (by omega), (.inr ⟨by omega, by rw [k2]; exact b, c⟩)⟩
end Go.Proofs.YtfcceojfcmgmlaaGreatDoor.Fl

/-
  All nodes gone through: the law's closure, the program's walk.
-/
namespace Go.Proofs.YtfcceojfcmgmlaaGreatDoor.Fl
open Go.RowKit Go.Shelf

/-- what the closure holds: how far it has come in a row of nodes -/
structure WsI (w : World) (P Q : Nat) (A : Option Addr) (c : Nat) (L : List NE) (n stop : Nat) : Prop where
  l : w.heap[P]? = some (.cells #[.slice A L.length c] 23 (0, 0))
  n : w.heap[Q]? = some (.cells #[.int .i64 (n : Int)] 3 (0, 0))
  s : w.heap[Q + 1]? = some (.cells #[.bool true] 4 (0, 0))
  st : w.heap[Q + 2]? = some (.cells #[.int .i64 (stop : Int)] 3 (0, 0))
  row : Rd w P A (ne_ L)
  lt : P < Q
/-- what stands in memory beside two blocks has not changed -/
structure OvQ (Q : Nat) (w w' : World) : Prop where
  os : w'.os = w.os
  tape : w'.tape = w.tape
  output : w'.output = w.output
  size : w.heap.size ≤ w'.heap.size
  block : ∀ k, k < w.heap.size → k ≠ Q → k ≠ Q + 1 → w'.heap[k]? = w.heap[k]?
theorem OvQ.refl (R : Nat) (w : World) : OvQ R w w := ⟨rfl, rfl, rfl, Nat.le_refl _, fun _ _ _ _ => rfl⟩
theorem OvQ.trans {R : Nat} {w w1 w2 : World} (h : OvQ R w w1) (k : OvQ R w1 w2) : OvQ R w w2 :=
  ⟨k.os.trans h.os, k.tape.trans h.tape, k.output.trans h.output, Nat.le_trans h.size k.size, fun j hj hn hm => (k.block j (Nat.lt_of_lt_of_le hj h.size) hn hm).trans (h.block j hj hn hm)⟩
theorem OvQ.of_below {R : Nat} {w w' : World} (h : Below w.heap.size w w') : OvQ R w w' := ⟨h.os, h.tape, h.output, h.size, fun k hk _ _ => h.block k hk⟩
theorem OvQ.below {R B : Nat} {w w' : World} (h : OvQ R w w') (hB : B ≤ w.heap.size) (hR : B ≤ R) : Below B w w' :=
  ⟨h.os, h.tape, h.output, h.size, fun k hk => h.block k (by omega) (by omega) (by omega)⟩
theorem row_node {w : World} {B : Nat} {A : Option Addr} {L : List NE} (h : Rd w B A (ne_ L)) {i : Nat} (hi : i < L.length) : ∃ b o, A = some ⟨b, o, none⟩ ∧ b < B ∧
    w.cell? ⟨b, o + i * 6, none⟩ = some (.int .i64 L[i].1.kd) ∧ w.cell? ⟨b, o + i * 6 + 1, none⟩ = some (.string (mkB L[i].1.nm)) ∧ w.cell? ⟨b, o + i * 6 + 2, none⟩ = some (.int .i64 L[i].1.nu) := by
  rcases h with h | ⟨b, off, rfl, hb, hc⟩
  · exact absurd h (by
      cases L with
      | nil => cases hi
      | cons x l => show ne6 x ++ ne_ l ≠ []; simp [ne6])
  · refine ⟨b, off, rfl, hb, ?_, ?_, ?_⟩
    · have := hc (i * 6 + 0) _ ((ne__get L i hi 0 (by omega)).trans rfl); exact this
    · have := hc (i * 6 + 1) _ ((ne__get L i hi 1 (by omega)).trans rfl); exact this
    · have := hc (i * 6 + 2) _ ((ne__get L i hi 2 (by omega)).trans rfl); exact this
theorem WsI.below {w w' : World} {P Q c n stop : Nat} {A : Option Addr} {L : List NE} (h : WsI w P Q A c L n stop) (hb : Below w.heap.size w w') : WsI w' P Q A c L n stop :=
  ⟨(hb.block P (lt_of_blk h.l)).trans h.l, (hb.block Q (lt_of_blk h.n)).trans h.n, (hb.block (Q + 1) (lt_of_blk h.s)).trans h.s, (hb.block (Q + 2) (lt_of_blk h.st)).trans h.st, h.row.below (hb.mono (Nat.le_of_lt (lt_of_blk h.l))) (Nat.le_refl _), h.lt⟩
theorem rd_set {w : World} {B k o : Nat} {A : Option Addr} {l : List Value} (h : Rd w B A l) (hk : B ≤ k) (v : Value) : Rd (w.setCell ⟨k, o, none⟩ v) B A l := by
  rcases h with h | ⟨b, off, e, hb, hc⟩
  · exact .inl h
  · refine .inr ⟨b, off, e, hb, fun j u hj => ?_⟩
    have := hc j u hj
    unfold World.cell? at this ⊢
    rw [Below.heap_setCell w ⟨k, o, none⟩ v b (show b ≠ k by omega)]
    exact this
theorem WsI.setS {w : World} {P Q c n stop : Nat} {A : Option Addr} {L : List NE} (h : WsI w P Q A c L n stop) : WsI (w.setCell ⟨Q + 1, 0, none⟩ (.bool true)) P Q A c L n stop :=
  have e := h.lt
  ⟨(Below.heap_setCell w ⟨Q + 1, 0, none⟩ _ P (show P ≠ Q + 1 by omega)).trans h.l, (Below.heap_setCell w ⟨Q + 1, 0, none⟩ _ Q (show Q ≠ Q + 1 by omega)).trans h.n, heap_setCell_same w (Q + 1) 0 _ _ _ h.s,
    (Below.heap_setCell w ⟨Q + 1, 0, none⟩ _ (Q + 2) (show Q + 2 ≠ Q + 1 by omega)).trans h.st, rd_set h.row (by omega) _, h.lt⟩
theorem WsI.setN {w : World} {P Q c n m stop : Nat} {A : Option Addr} {L : List NE} (h : WsI w P Q A c L n stop) : WsI (w.setCell ⟨Q, 0, none⟩ (.int .i64 (m : Int))) P Q A c L m stop :=
  have e := h.lt
  ⟨(Below.heap_setCell w ⟨Q, 0, none⟩ _ P (show P ≠ Q by omega)).trans h.l, heap_setCell_same w Q 0 _ _ _ h.n, (Below.heap_setCell w ⟨Q, 0, none⟩ _ (Q + 1) (show Q + 1 ≠ Q by omega)).trans h.s,
    (Below.heap_setCell w ⟨Q, 0, none⟩ _ (Q + 2) (show Q + 2 ≠ Q by omega)).trans h.st, rd_set h.row (by omega) _, h.lt⟩
theorem OvQ.set {Q : Nat} (w : World) (j : Nat) (hj : j = Q ∨ j = Q + 1) (v : Value) : OvQ Q w (w.setCell ⟨j, 0, none⟩ v) :=
  ⟨rfl, rfl, rfl, Nat.le_of_eq (by simp [World.setCell]), fun k _ hn hm => Below.heap_setCell _ ⟨j, 0, none⟩ _ k (show k ≠ j by omega)⟩
set_option maxRecDepth 100000 in
set_option maxHeartbeats 8000000 in
theorem see_any (x : Nd) (sk sn : Value) (P Q : Nat) (A : Option Addr) (c : Nat) (L : List NE) (n stop : Nat) (w : World) (h : WsI w P Q A c L n stop) (hn : n < L.length) (hx : L[n].1 = x) (hl : L.length ≤ 10000000) :
    Calls Tryz.prog 22 #[.agg #[.int .i64 x.kd, .string (mkB x.nm), .int .i64 x.nu, sk, sn, .int .i64 x.at_], .pointer (some ⟨Q + 1, 0, none⟩), .pointer (some ⟨Q, 0, none⟩), .pointer (some ⟨P, 0, none⟩), .pointer (some ⟨Q + 2, 0, none⟩)] w
      fun e w' => e = .returned (.bool (decide (n + 1 ≤ stop))) ∧ WsI w' P Q A c L (n + 1) stop ∧ OvQ Q w w' := by
  obtain ⟨W1, hW1⟩ : ∃ W1, w.alloc (.cells #[.int .i64 x.kd, .string (mkB x.nm), .int .i64 x.nu, sk, sn, .int .i64 x.at_] 47) = W1 := ⟨_, rfl⟩
  have hb1 : Below w.heap.size w W1 := by rw [← hW1]; exact (Below.refl _ _).alloc (Nat.le_refl _) _
  obtain ⟨X, hX⟩ : ∃ X, w.heap.size = X := ⟨_, rfl⟩
  have hx1 : W1.heap[X]? = some (.cells #[.int .i64 x.kd, .string (mkB x.nm), .int .i64 x.nu, sk, sn, .int .i64 x.at_] 47 (0, 0)) := by
    rw [← hW1, ← hX]; exact heap_alloc_new w _
  have h1 := h.below hb1
  clear h
  obtain ⟨b, o, rfl, hb, d0, d1, d2⟩ := row_node h1.row hn
  rw [hx] at d0 d1 d2
  go_enter Tryz.func22, Tryz.ntmps22
  go_upto_region 1 with fail
  try simp only [hW1, hX]
  have hX0 := Lib.hid hX
  have H1 := Lib.hid h1
  have HB := Lib.hid hb1
  have hlb : b < W1.heap.size := Nat.lt_trans hb (lt_of_blk h1.l)
  have f1 := cells6T hx1
  have f2 := cells1T h1.l
  have f3 := cells1T h1.n
  have f4 := cells1T h1.s
  have l1 := lt_of_blk hx1
  have l2 := lt_of_blk h1.l
  have l3 := lt_of_blk h1.n
  have l4 := lt_of_blk h1.s
  have hq : (n : Int) < (L.length : Int) := by omega
  have hq0 : (0 : Int) ≤ (n : Int) := by omega
  clear hW1 hX h1 hb1
  go_region
  have h2 : WsI (W1.setCell ⟨Q + 1, 0, none⟩ (.bool true)).drew P Q (some ⟨b, o, none⟩) c L n stop := H1.out.setS.below ((Below.refl _ _).drew)
  have ho2 : OvQ Q w (W1.setCell ⟨Q + 1, 0, none⟩ (.bool true)).drew := ((OvQ.of_below HB.out).trans (OvQ.set W1 (Q + 1) (.inr rfl) _)).trans (OvQ.of_below ((Below.refl _ _).drew))
  generalize (W1.setCell ⟨Q + 1, 0, none⟩ (.bool true)).drew = W2 at *
  clear f1 f2 f3 f4 l1 l2 l3 l4 hlb d0 d1 d2 hx1 H1 HB hb
  have f3 := cells1T h2.n
  have f5 := cells1T h2.st
  have l3 := lt_of_blk h2.n
  have l5 := lt_of_blk h2.st
  have h3 : WsI (W2.setCell ⟨Q, 0, none⟩ (.int .i64 ((n + 1 : Nat) : Int))) P Q (some ⟨b, o, none⟩) c L (n + 1) stop := h2.setN
  have ho3 := ho2.trans (OvQ.set W2 Q (.inl rfl) (.int .i64 ((n + 1 : Nat) : Int)))
  have en : ((n + 1 : Nat) : Int) = (n : Int) + 1 := by omega
  rw [en] at h3 ho3
  have H3 := Lib.hid h3
  have HO := Lib.hid ho3
  clear h3 ho3 ho2
  have H2 := Lib.hid h2
  clear h2
  by_cases hst : n + 1 ≤ stop
  · have hs1 : (n : Int) + 1 ≤ (stop : Int) := by omega
    go_wp2_with fail
    go_ret
    refine ⟨?_, H3.out, HO.out⟩
    simp [hst]
  · have hs1 : ¬ (n : Int) + 1 ≤ (stop : Int) := by omega
    go_wp2_with fail
    go_ret
    refine ⟨?_, H3.out, HO.out⟩
    simp [hst]
end Go.Proofs.YtfcceojfcmgmlaaGreatDoor.Fl

/-
  All nodes gone through: the program's walk with the law's closure.
-/
namespace Go.Proofs.YtfcceojfcmgmlaaGreatDoor.Fl
open Go.RowKit Go.Shelf

/-- a row of nodes holds these from here on -/
def Seg (L : List Nd) (n : Nat) (l : List Nd) : Prop := ∃ pre post, L = pre ++ (l ++ post) ∧ pre.length = n
theorem Seg.head {L l : List Nd} {x : Nd} {n : Nat} (h : Seg L n (x :: l)) : L[n]? = some x := by
  obtain ⟨pre, post, rfl, rfl⟩ := h
  rw [List.getElem?_append_right (Nat.le_refl _), Nat.sub_self]
  rfl
theorem Seg.sub {L a b c : List Nd} {n : Nat} (h : Seg L n (a ++ (b ++ c))) : Seg L (n + a.length) b := by
  obtain ⟨pre, post, rfl, rfl⟩ := h
  exact ⟨pre ++ a, c ++ post, by simp, by simp⟩
theorem cntL_app : ∀ l m : List Nd, cntL (l ++ m) = cntL l + cntL m
  | [], m => by rw [List.nil_append, cntL, Nat.zero_add]
  | x :: l, m => by rw [List.cons_append, cntL, cntL, cntL_app l m]; omega
theorem cntL_take {l : List Nd} {i : Nat} (h : i < l.length) : cntL (l.take (i + 1)) = cntL (l.take i) + (1 + cntL l[i].kids) := by
  rw [List.take_succ_eq_append_getElem h, cntL_app, cntL, cntL, cntN_eq]; omega
theorem cntL_le (l : List Nd) (i : Nat) : cntL (l.take i) ≤ cntL l := by
  have : cntL l = cntL (l.take i) + cntL (l.drop i) := by rw [← cntL_app, List.take_append_drop]
  omega
theorem Seg.at_ {L l : List Nd} {n i : Nat} (h : Seg L n (allL l)) (hi : i < l.length) : Seg L (n + cntL (l.take i)) (l[i] :: allL l[i].kids) := by
  have e : allL l = allL (l.take i) ++ ((l[i] :: allL l[i].kids) ++ allL (l.drop (i + 1))) := by
    have e2 : allL (l.take (i + 1)) = allL (l.take i) ++ l[i] :: allL l[i].kids := by rw [List.take_succ_eq_append_getElem hi, allL_app, allL, allN_eq, allL, List.append_nil]
    rw [← List.append_assoc, ← e2, ← allL_app, List.take_append_drop]
  rw [e] at h
  rw [← allL_len _ (l.take i) (Nat.le_refl _)]
  exact h.sub
theorem Seg.tail {L l : List Nd} {x : Nd} {n : Nat} (h : Seg L n (x :: l)) : Seg L (n + 1) l := by
  obtain ⟨pre, post, rfl, rfl⟩ := h
  exact ⟨pre ++ [x], post, by simp, by simp⟩
set_option maxRecDepth 100000 in
set_option maxHeartbeats 8000000 in
theorem walk_any (k : Nat) : ∀ (xs : List Nd) (A AL : Option Addr) (c cL P Q n stop : Nat) (L : List NE) (w : World), cntL xs ≤ k → NdsAt w (Lo P) A xs → xs.length ≤ c → c ≤ 9223372036854775807 → WsI w P Q AL cL L n stop → n ≤ stop → stop ≤ L.length → L.length ≤ 10000000 → Seg (L.map fun x => x.1) n (allL xs) →
    Calls Tryz.prog 48 #[.slice A xs.length c, .func (.func 22) #[] #[.pointer (some ⟨Q + 1, 0, none⟩), .pointer (some ⟨Q, 0, none⟩), .pointer (some ⟨P, 0, none⟩), .pointer (some ⟨Q + 2, 0, none⟩)]] w
      fun e w' => e = .returned (.bool (decide (n + cntL xs ≤ stop))) ∧ WsI w' P Q AL cL L (min (n + cntL xs) (stop + 1)) stop ∧ OvQ Q w w' := by
  induction k using Nat.strongRecOn with
  | _ k ih =>
    intro xs A AL c cL P Q n stop L w hk h hc hcc hw hns hsL hL hsg
    have H1 := Lib.hid h
    have HW0 := Lib.hid hw
    have hPQ := hw.lt
    have hPw := lt_of_blk hw.l
    have hQw := lt_of_blk hw.s
    have HSG := Lib.hid hsg
    clear h hw hsg
    go_enter Tryz.func48, Tryz.ntmps48
    go_wp2_with fail
    go_loopw [9] (fun v wr => ∃ i : Nat, i ≤ xs.length ∧ v = .int .i64 (i : Int) ∧ n + cntL (xs.take i) ≤ stop ∧ Hid (WsI wr P Q AL cL L (n + cntL (xs.take i)) stop) ∧ Hid (OvQ Q w wr)) (fun v _ => xs.length - (intOf v).toNat)
    case atStart => exact ⟨0, Nat.zero_le _, rfl, by simpa [cntL] using hns, by simpa [cntL] using HW0, Lib.hid (OvQ.refl _ _)⟩
    case round =>
      obtain ⟨i, hi, rfl, hni, HW, HO⟩ := hrel
      by_cases hlt : i < xs.length
      case neg =>
        have hq : ¬ ((i : Int) < (xs.length : Int)) := by omega
        rw [List.take_of_length_le (by omega)] at hni HW
        have HW2 := HW
        go_wp2_with fail
        go_ret
        refine ⟨?_, ?_, HO.out⟩
        · simp [hni]
        · rw [Nat.min_eq_left (by omega)]; exact HW2.out
      have hq : (i : Int) < (xs.length : Int) := by omega
      have hbP : Below P w wr := HO.out.below (Nat.le_of_lt hPw) (Nat.le_of_lt hPQ)
      have hN1 := (H1.out.below hbP (Nat.le_refl _)).at_ hlt
      obtain ⟨b, o, rfl, hb, Ak, ck, An, cn, d0, d1, d2, d3, d4, d5, g1, g2, g3, g4, g5, g6, _, _⟩ := hN1
      have hb : b < P := hb
      have hbw : b < wr.heap.size := Nat.lt_trans hb (lt_of_blk HW.out.l)
      have hck := cnt_kid hlt
      have hct := cntL_take hlt
      have hle := cntL_le xs (i + 1)
      have hs1 := HSG.out.at_ hlt
      obtain ⟨m, hm⟩ : ∃ m, n + cntL (xs.take i) = m := ⟨_, rfl⟩
      rw [hm] at hs1 hni HW
      have hmn : n + cntL (xs.take (i + 1)) = m + (1 + cntL xs[i].kids) := by omega
      have HT := Lib.hid (show n + cntL (xs.take (i + 1)) = m + (1 + cntL xs[i].kids) by omega)
      have hge : m + (1 + cntL xs[i].kids) ≤ n + cntL xs := by omega
      have hmL : m < L.length := by
        have := hs1.head
        have h2 := (List.getElem?_eq_some_iff.1 this).1
        simpa using h2
      have hLm : L[m].1 = xs[i] := by
        have := hs1.head
        rw [List.getElem?_map, List.getElem?_eq_getElem hmL] at this
        simpa using this
      have hs2 := hs1.tail
      obtain ⟨W1, hW1⟩ : ∃ W1, wr.alloc (.cells #[.int .i64 xs[i].kd, .string (mkB xs[i].nm), .int .i64 xs[i].nu, .slice Ak xs[i].kids.length ck, .slice An xs[i].ns.length cn, .int .i64 xs[i].at_] 47) = W1 := ⟨_, rfl⟩
      have hb1 : Below wr.heap.size wr W1 := by rw [← hW1]; exact (Below.refl _ _).alloc (Nat.le_refl _) _
      obtain ⟨X, hX⟩ : ∃ X, wr.heap.size = X := ⟨_, rfl⟩
      have hx1 : W1.heap[X]? = some (.cells #[.int .i64 xs[i].kd, .string (mkB xs[i].nm), .int .i64 xs[i].nu, .slice Ak xs[i].kids.length ck, .slice An xs[i].ns.length cn, .int .i64 xs[i].at_] 47 (0, 0)) := by
        rw [← hW1, ← hX]; exact heap_alloc_new wr _
      have hsee := see_any xs[i] (.slice Ak xs[i].kids.length ck) (.slice An xs[i].ns.length cn) P Q AL cL L m stop W1 (HW.out.below hb1) hmL hLm hL
      have HRC : Hid (∀ w', OvQ Q W1 w' → WsI w' P Q AL cL L (m + 1) stop → m + 1 ≤ stop → Calls Tryz.prog 48 #[.slice Ak xs[i].kids.length ck, .func (.func 22) #[] #[.pointer (some ⟨Q + 1, 0, none⟩), .pointer (some ⟨Q, 0, none⟩), .pointer (some ⟨P, 0, none⟩), .pointer (some ⟨Q + 2, 0, none⟩)]] w' fun e w2 => e = .returned (.bool (decide (m + 1 + cntL xs[i].kids ≤ stop))) ∧ WsI w2 P Q AL cL L (min (m + 1 + cntL xs[i].kids) (stop + 1)) stop ∧ OvQ Q w' w2) :=
        Lib.hid (fun w' ho hw2 hms => ih (cntL xs[i].kids) (by omega) xs[i].kids Ak AL ck cL P Q (m + 1) stop L w' (Nat.le_refl _) (g6.below ((hb1.mono (Nat.le_of_lt (lt_of_blk HW.out.l))).trans (ho.below (Nat.le_trans (Nat.le_of_lt (lt_of_blk HW.out.l)) hb1.size) (Nat.le_of_lt hPQ))) (Nat.le_refl _)) g1 g3 hw2 hms hsL hL hs2)
      clear ih g5 g6 hck hct hle hs1 hs2 hLm hmn hbP
      generalize xs[i] = x at *
      have HXX := Lib.hid (show X ≠ Q ∧ X ≠ Q + 1 by have := lt_of_blk HW.out.s; omega)
      go_upto_region 4 with fail
      try simp only [hW1, hX]
      have HX := Lib.hid hX
      have HO1 := Lib.hid (HO.out.trans (OvQ.of_below hb1))
      clear hW1 hX hb1 d0 d1 d2 d3 d4 d5 hbw
      have f1 := cells6T hx1
      have l1 := lt_of_blk hx1
      by_cases hst : m + 1 ≤ stop
      case neg =>
        have hd : decide (m + 1 ≤ stop) = false := by simp [hst]
        rw [hd] at hsee
        go_wp2_with (go_at_call 22; refine hsee.mono ?_; rintro e w2 ⟨rfl, hw2, ho2⟩; clear hsee; have HW2 := Lib.hid hw2; have HO2 := Lib.hid ho2; clear hw2 ho2)
        go_ret
        refine ⟨?_, ?_, HO1.out.trans HO2.out⟩
        · rw [show decide (n + cntL xs ≤ stop) = false by simp; omega]; rfl
        · rw [show min (n + cntL xs) (stop + 1) = m + 1 by omega]; exact HW2.out
      have hd : decide (m + 1 ≤ stop) = true := by simp [hst]
      rw [hd] at hsee
      by_cases hkt : m + 1 + cntL x.kids ≤ stop
      case neg =>
        have hd2 : decide (m + 1 + cntL x.kids ≤ stop) = false := by simp; omega
        go_wp2_with (first
          | (go_at_call 22; refine hsee.mono ?_; rintro e w2 ⟨rfl, hw2, ho2⟩; clear hsee
             have hx2 := (ho2.block X l1 HXX.out.1 HXX.out.2).trans hx1
             have f2 := cells6T hx2
             have l2 := lt_of_blk hx2
             have hwk := HRC.out w2 ho2 hw2 hst
             rw [hd2] at hwk
             have HO2 := Lib.hid ho2
             clear hw2 ho2 f1 l1 hx2)
          | (go_at_call 48; refine hwk.mono ?_; rintro e w3 ⟨rfl, hw3, ho3⟩; clear hwk; have HW3 := Lib.hid hw3; have HO3 := Lib.hid ho3; clear hw3 ho3))
        go_ret
        refine ⟨?_, ?_, HO1.out.trans (HO2.out.trans HO3.out)⟩
        · rw [show decide (n + cntL xs ≤ stop) = false by simp; omega]; rfl
        · rw [show min (n + cntL xs) (stop + 1) = min (m + 1 + cntL x.kids) (stop + 1) by omega]; exact HW3.out
      case pos =>
        have hd2 : decide (m + 1 + cntL x.kids ≤ stop) = true := by simp; omega
        go_wp2_with (first
          | (go_at_call 22; refine hsee.mono ?_; rintro e w2 ⟨rfl, hw2, ho2⟩; clear hsee
             have hx2 := (ho2.block X l1 HXX.out.1 HXX.out.2).trans hx1
             have f2 := cells6T hx2
             have l2 := lt_of_blk hx2
             have hwk := HRC.out w2 ho2 hw2 hst
             rw [hd2] at hwk
             have HO2 := Lib.hid ho2
             clear hw2 ho2 f1 l1 hx2)
          | (go_at_call 48; refine hwk.mono ?_; rintro e w3 ⟨rfl, hw3, ho3⟩; clear hwk; have HW3 := Lib.hid hw3; have HO3 := Lib.hid ho3; clear hw3 ho3))
        go_roundw
        case rel => exact ⟨i + 1, by omega, by simp, by rw [HT.out]; omega, Lib.hid (by rw [HT.out, show m + (1 + cntL x.kids) = min (m + 1 + cntL x.kids) (stop + 1) by omega]; exact HW3.out), Lib.hid (HO1.out.trans (HO2.out.trans HO3.out))⟩
        case measure => simp [intOf]; omega
end Go.Proofs.YtfcceojfcmgmlaaGreatDoor.Fl

/-
  All nodes gone through: the program's Walk.
-/
namespace Go.Proofs.YtfcceojfcmgmlaaGreatDoor.Fl
open Go.RowKit Go.Shelf

set_option maxRecDepth 100000 in
set_option maxHeartbeats 8000000 in
theorem walkM_any (m : Me) (v : Value) (AL : Option Addr) (cL P Q stop : Nat) (L : List NE) (w : World) (h : MeAt w (Lo P) v m) (hw : WsI w P Q AL cL L 0 stop) (hsL : stop ≤ L.length) (hL : L.length ≤ 10000000) (hsg : (L.map fun x => x.1) = allL m.bd) :
    Calls Tryz.prog 21 #[v, .func (.func 22) #[] #[.pointer (some ⟨Q + 1, 0, none⟩), .pointer (some ⟨Q, 0, none⟩), .pointer (some ⟨P, 0, none⟩), .pointer (some ⟨Q + 2, 0, none⟩)]] w
      fun e w' => e = .returned (.bool (decide (cntL m.bd ≤ stop))) ∧ WsI w' P Q AL cL L (min (cntL m.bd) (stop + 1)) stop ∧ OvQ Q w w' := by
  obtain ⟨Ap, cp, At, ct, Ab, cb, rfl, h1, h2, h3, h4, h5, h6, s1, s2, s3, n1, n2, n3⟩ := h.ex
  clear h s1 s2 n1 n2 n3
  obtain ⟨W1, hW1⟩ : ∃ W, w.alloc (.cells #[.string (mkB m.nm), .slice Ap m.ps.length cp, .slice At m.ts.length ct, .int .i64 m.pr, .slice Ab m.bd.length cb, .int .i64 m.at_] 30) = W := ⟨_, rfl⟩
  obtain ⟨X, hX⟩ : ∃ X, w.heap.size = X := ⟨_, rfl⟩
  have hb1 : Below w.heap.size w W1 := by rw [← hW1]; exact (Below.refl _ _).alloc (Nat.le_refl _) _
  have hx1 : W1.heap[X]? = some (.cells #[.string (mkB m.nm), .slice Ap m.ps.length cp, .slice At m.ts.length ct, .int .i64 m.pr, .slice Ab m.bd.length cb, .int .i64 m.at_] 30 (0, 0)) := by
    rw [← hW1, ← hX]; exact heap_alloc_new w _
  have hwk := walk_any (cntL m.bd) m.bd Ab AL cb cL P Q 0 stop L W1 (Nat.le_refl _) (s3.below (hb1.mono (Nat.le_of_lt (lt_of_blk hw.l))) (Nat.le_refl _)) h5 h6 (hw.below hb1) (Nat.zero_le _) hsL hL ⟨[], [], by rw [hsg]; simp, rfl⟩
  rw [Nat.zero_add] at hwk
  have HO1 := Lib.hid (OvQ.of_below (R := Q) hb1)
  go_enter Tryz.func21, Tryz.ntmps21
  go_upto_region 1 with fail
  try simp only [hW1, hX]
  clear hW1 hX hb1 s3 hw
  have f1 := cells6T hx1
  have l1 := lt_of_blk hx1
  have hn : ∀ (w' : World), (binOp .eql 50 (.func (.func 22) #[] #[.pointer (some ⟨Q + 1, 0, none⟩), .pointer (some ⟨Q, 0, none⟩), .pointer (some ⟨P, 0, none⟩), .pointer (some ⟨Q + 2, 0, none⟩)]) .nilFunc).run Tryz.prog w' = .ok (.bool false) w' := by
    intro w'
    obtain ⟨d, hd⟩ : ∃ d, Op.maxDepth = d + 1 := ⟨_, rfl⟩
    simp only [binOp, Op.equal, hd]
    unfold Op.equalIn
    simp [go_sem, Tryz.underlying50]
  go_wp2_with (go_at_call 48; refine hwk.mono ?_; rintro e w3 ⟨rfl, hw3, ho3⟩; clear hwk; have HW3 := Lib.hid hw3; have HO3 := Lib.hid ho3; clear hw3 ho3)
  go_ret
  exact ⟨rfl, HW3.out, HO1.out.trans HO3.out⟩
end Go.Proofs.YtfcceojfcmgmlaaGreatDoor.Fl
