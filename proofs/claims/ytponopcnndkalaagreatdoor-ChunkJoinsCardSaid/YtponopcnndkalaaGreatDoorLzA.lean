/-
  The document's lexer: All.
-/
import Derived.Test.YtponopcnndkalaaGreatDoorLyB
import Derived.Test.YtponopcnndkalaaGreatDoorLyF
namespace Go.Proofs.YtponopcnndkalaaGreatDoor.Fl
open Go.RowKit

theorem tokinfoR : (Tryz.prog.info? 90).map (fun i => (i.zero, i.size, i.bytes)) = some (some (.agg #[.int .i64 0, .string ⟨#[]⟩, .int .i64 0, .int .i64 0]), 4, 40) := by kernel_rfl
def OwnR (w : World) (base : Nat) (v : Value) (l : List Tok) : Prop := w.ownsRow base 90 4 v l.length (ct l)
theorem OwnR.below {w w' : World} {base : Nat} {v : Value} {xs : List Tok} (h : OwnR w base v xs) (hb : Below w.heap.size w w') : OwnR w' base v xs :=
  ⟨h.1, h.2.elim .inl fun ⟨g, cap, cur, hv, hbg, hg, r⟩ => .inr ⟨g, cap, cur, hv, hbg, (hb.block g (lt_of_blk hg)).trans hg, r⟩⟩
/-- append of tokens onto a row of the call's own -/
theorem wpList_append_r {w : World} {base c : Nat} {A : Option Addr} {xs news : List Tok} {v : Value} {ops : Array Oper} {rest : List Oper} {o : Oper} {a : Act} {Q : Exit → Act → World → Prop} (hg : o.guard = none) (s x : Operand) (ho : o.op = .call { callee := .builtin .append, args := #[s, x], argTypes := #[62, 62] })
    (hs : a.eval s = v) (hx : a.eval x = .slice A news.length c) (hown : OwnR w base v xs) (hr : Rd w w.heap.size A (ct news)) (hA : A = none → news.length = 0) (hl : xs.length ≤ 100000000) (hl2 : news.length ≤ 100000000) (hb : base ≤ w.heap.size)
    (h : ∀ A' ts c' w', Hid (ts = xs ++ news) → Hid (OwnR w' base (.slice A' ts.length c') ts) → Hid (Below base w w' ∧ ∀ k, k < w.heap.size → some k ≠ v.ownBlock → w'.heap[k]? = w.heap[k]?) → wpList Tryz.prog ops Q rest (a.put o.dst (.slice A' ts.length c')) w') : wpList Tryz.prog ops Q (o :: rest) a w := by
  obtain ⟨i0, hi, hz0, hz1, hz2⟩ := info_parts tokinfoR
  refine wpList_append_rd (base := base) (size := 4) (bytes := 40) (n := xs.length) (m := news.length) (c := c) (v := v) (xs := ct xs) (news := ct news) hg s x ho Tryz.underlying62 hi hz0 hz1 hz2 rfl (by decide) hs hx hown hr (ct_len _) hA (ct_one news) (by unfold maxLen; omega) (by omega) hb ?_
  intro v' w' happ
  obtain ⟨A', c', rfl, _, _⟩ := happ.slice
  have e : xs.length + news.length = (xs ++ news).length := by simp
  have ho := happ.own
  rw [e, show ct xs ++ ct news = ct (xs ++ news) from (ct_append _ _).symm] at ho
  rw [e]
  exact h A' (xs ++ news) c' w' (Lib.hid rfl) (Lib.hid ho) (Lib.hid ⟨(Below.refl _ _).grown happ.grown hb (fun j hj => (World.ownsRow.lt hown j hj).1), happ.grown.block⟩)
theorem ownR_rd {w : World} {base n c : Nat} {A : Option Addr} {xs : List Tok} (h : OwnR w base (.slice A n c) xs) : Rd w w.heap.size A (ct xs) := by
  rcases h.2 with ⟨_, e2⟩ | ⟨g, cap, cur, e1, hb, hg, _, _, _, ht⟩
  · rw [List.eq_nil_of_length_eq_zero e2]; exact .inl rfl
  · injection e1 with e1 _ _
    subst e1
    refine .inr ⟨g, 0, rfl, lt_of_blk hg, fun j v hj => ?_⟩
    have hjl : j < xs.length * 4 := by
      rcases Nat.lt_or_ge j (ct xs).length with h1 | h1
      · rwa [ct_len] at h1
      · rw [List.getElem?_eq_none h1] at hj; cases hj
    rw [Nat.zero_add, cell_of_row w g j _ _ _ hg, ← hj, ← ht, List.getElem?_take, if_pos (by omega)]
    simp
theorem rd_oneR (w : World) (x : Tok) : Rd (w.alloc (.cells #[.int .i64 (x.1 : Int), .string ⟨x.2.1.toArray⟩, .int .i64 x.2.2.1, .int .i64 (x.2.2.2 : Int)] 90)) (w.alloc (.cells #[.int .i64 (x.1 : Int), .string ⟨x.2.1.toArray⟩, .int .i64 x.2.2.1, .int .i64 (x.2.2.2 : Int)] 90)).heap.size (some ⟨w.heap.size, 0, none⟩) (ct [x]) := by
  obtain ⟨c0, c1, c2, c3, _⟩ := cells4L (heap_alloc_new w (.cells #[.int .i64 (x.1 : Int), .string ⟨x.2.1.toArray⟩, .int .i64 x.2.2.1, .int .i64 (x.2.2.2 : Int)] 90))
  refine .inr ⟨w.heap.size, 0, rfl, by rw [World.size_alloc]; omega, fun j v hj => ?_⟩
  have hj' : [Value.int .i64 (x.1 : Int), .string ⟨x.2.1.toArray⟩, .int .i64 x.2.2.1, .int .i64 (x.2.2.2 : Int)][j]? = some v := hj
  rw [Nat.zero_add]
  rcases j with _ | _ | _ | _ | j
  · exact c0.trans hj'
  · exact c1.trans hj'
  · exact c2.trans hj'
  · exact c3.trans hj'
  · simp at hj'
theorem ownR_none {w : World} {base n c : Nat} {A : Option Addr} {xs : List Tok} (h : OwnR w base (.slice A n c) xs) : (A = none → xs.length = 0) ∧ xs.length ≤ c := by
  rcases h.2 with ⟨e1, e2⟩ | ⟨g, cap, cur, e1, _, _, hc, _⟩
  · exact ⟨fun _ => e2, by omega⟩
  · injection e1 with e1 _ e3
    subst e1 e3
    exact ⟨fun h => (by cases h), hc⟩
def RAllPost (s : ByteArray) (r : List Tok ⊕ (Int × Nat)) (w : World) (e : Ending) (w' : World) : Prop :=
  Below w.heap.size w w' ∧ ((∃ l A c, r = .inl l ∧ e = .returned (.tuple #[.slice A l.length c, .int .i64 0, .int .i64 0]) ∧ OwnR w' w.heap.size (.slice A l.length c) l) ∨ (∃ n q, r = .inr (n, q) ∧ q ≤ s.size ∧ e = .returned (.tuple #[.slice none 0 0, .int .i64 (q : Int), .int .i64 n])))
set_option maxRecDepth 100000 in
set_option maxHeartbeats 4000000 in
theorem rall_any (s : ByteArray) (w : World) (hs : s.size ≤ 16777216) :
    Calls Tryz.prog 20 #[.string s] w (RAllPost s (allW s 0) w) := by
  go_enter Tryz.func20, Tryz.ntmps20
  obtain ⟨r, hr⟩ : ∃ r, allW s 0 = r := ⟨_, rfl⟩
  rw [hr]
  have HR := Lib.hid hr
  clear hr
  go_wp2_with fail
  go_loopw [5, 6, 7] (fun v v' v7 wr => ∃ (p k0 : Nat) (A : Option Addr) (c : Nat) (ts : List Tok), p ≤ s.size ∧ k0 ≤ p ∧ v = .slice A ts.length c ∧ v' = .int .i64 (p : Int) ∧ v7 = .int .i64 (k0 : Int) ∧ Hid (ts.length ≤ p) ∧ Hid (preW ts (allW s p) = r) ∧ Hid (OwnR wr w.heap.size (.slice A ts.length c) ts) ∧ Hid (Below w.heap.size w wr)) (fun _ v' _ _ => s.size + 1 - (intOf v').toNat)
  case atStart => exact ⟨0, 0, none, 0, [], Nat.zero_le _, Nat.le_refl _, rfl, rfl, rfl, Lib.hid (Nat.le_refl _), Lib.hid (by rw [HR.out]; cases r <;> rfl), Lib.hid (World.ownsRow_nil _ _ _ _), Lib.hid (Below.refl _ _)⟩
  case round =>
    obtain ⟨p, k0, A, c, ts, hp, hk0, rfl, rfl, rfl, HL, HW, HO, HB⟩ := hrel
    have hn := rnext_any s p wr hs hp
    go_wp2_with fail
    refine hn.mono ?_
    rintro e w1 ⟨hb1, (⟨k, t, n, q, p', tb, hr, hq, hp', htb, rfl⟩ | ⟨n, q, hr, hq, rfl⟩)⟩
    case inr =>
      have HW2 : Hid (r = .inr (n, q)) := Lib.hid (by rw [← HW.out, allW_no hr]; rfl)
      have HB2 := Lib.hid (HB.out.trans (hb1.mono HB.out.size))
      have hn0 := tokR_err hr
      have hnb : (n != 0) = true := by rw [bne_iff_ne]; exact hn0
      clear hn hr hb1 HW HO HB hn0
      unfold tokV
      go_wp2_with fail
      go_ret3
      exact ⟨HB2.out.alloc HB2.out.size _, .inr ⟨n, q, HW2.out, hq, rfl⟩⟩
    have htb2 := sb_back htb
    subst htb2
    have HRt := Lib.hid hr
    have HO1 := Lib.hid (HO.out.below hb1)
    have HB1 := Lib.hid (HB.out.trans (hb1.mono HB.out.size))
    have HQ := Lib.hid (And.intro hq hp')
    clear hn hr htb hb1 HO HB hq hp'
    unfold tokV
    go_upto_region 7 with fail
    have hlt1 : ∀ j, (Value.slice A ts.length c).ownBlock = some j → j < w1.heap.size := fun j hj => (World.ownsRow.lt HO1.out j hj).2
    have hw2 := heap_alloc_new w1 (.cells #[.int .i64 (k : Int), .string ⟨t.toArray⟩, .int .i64 n, .int .i64 (q : Int)] 90)
    have hb2 : Below w1.heap.size w1 (w1.alloc (.cells #[.int .i64 (k : Int), .string ⟨t.toArray⟩, .int .i64 n, .int .i64 (q : Int)] 90)) := (Below.refl _ _).alloc (Nat.le_refl _) _
    generalize hw : w1.alloc (.cells #[.int .i64 (k : Int), .string ⟨t.toArray⟩, .int .i64 n, .int .i64 (q : Int)] 90) = w2 at *
    clear hw
    have f2 := cells4L hw2
    have l2 := lt_of_blk hw2
    have hb3 : Below w2.heap.size w2 (w2.alloc (.cells #[.int .i64 (k : Int), .string ⟨t.toArray⟩, .int .i64 n, .int .i64 (q : Int)] 90)) := (Below.refl _ _).alloc (Nat.le_refl _) _
    have HO3 := Lib.hid ((HO1.out.below hb2).below hb3)
    have HR3 := Lib.hid (rd_oneR w2 (k, t, n, q))
    have HB3 := Lib.hid ((HB1.out.trans (hb2.mono HB1.out.size)).trans (hb3.mono (Nat.le_trans HB1.out.size hb2.size)))
    have HX3 := Lib.hid ((hb3.block _ l2).trans hw2)
    have HL3 := Lib.hid hlt1
    have hl9 : ts.length ≤ 100000000 := by have := HL.out; omega
    clear hlt1 hw2 hb2 hb3 HO1 HB1
    go_wp2_with (at_builtin; refine wpList_append_r (base := w.heap.size) (v := .slice A ts.length c) (news := [(k, t, n, q)]) rfl _ _ rfl rfl rfl HO3.out HR3.out (fun h => by cases h) hl9 (by simp) HB3.out.size ?_; intro A4 t4 c4 w4 HT4 HO4 HB4; have HX4 := Lib.hid ((HB4.out.2 w1.heap.size (lt_of_blk HX3.out) (fun e => Nat.lt_irrefl _ (HL3.out _ e.symm))).trans HX3.out); have f4 := cells4L HX4.out)
    · rename_i hk
      have hk0' : k = 0 := by simpa using hk
      subst hk0'
      have HW2 : Hid (r = .inl t4) := Lib.hid (by rw [← HW.out, allW_end HRt.out, HT4.out]; rfl)
      clear HT4 hk
      go_ret3
      exact ⟨HB3.out.trans HB4.out.1, .inl ⟨t4, A4, c4, HW2.out, rfl, HO4.out⟩⟩
    · rename_i hk
      have hk0' : k ≠ 0 := by simpa using hk
      have hgo := allW_go hp HQ.out.2 HRt.out hk0' ts
      have HW2 := Lib.hid (hgo.2.symm.trans HW.out)
      have hlt := hgo.1
      have HL4 : Hid (t4.length ≤ p') := Lib.hid (by have := HL.out; rw [HT4.out, List.length_append]; simp; omega)
      have HB5 := Lib.hid (HB3.out.trans HB4.out.1)
      have hp2 := HQ.out.2
      have HW5 : Hid (preW t4 (allW s p') = r) := Lib.hid (by rw [HT4.out]; exact HW2.out)
      clear hgo hk HT4 HW2 HB3 HB4 HX3 HX4 HO3 HR3 HW HL HRt f2 f4 l2
      go_roundw
      case rel => exact ⟨p', k0 + 1, A4, c4, t4, hp2, by omega, rfl, rfl, rfl, HL4, HW5, HO4, HB5⟩
      case measure => simp [intOf]; omega
end Go.Proofs.YtponopcnndkalaaGreatDoor.Fl

/-
  The document's chunks: blanks, a chunk from a place on.
-/
namespace Go.Proofs.YtponopcnndkalaaGreatDoor.Fl
open Go.RowKit

theorem rblank_any (c : Nat) (w : World) (hc : c < 256) :
    Calls Tryz.prog 33 #[.int .u8 (c : Int)] w fun e w' => e = .returned (.bool (blankN c)) ∧ w = w' := by
  obtain ⟨r, hr⟩ : ∃ r, blankN c = r := ⟨_, rfl⟩
  rw [hr]
  have HR := Lib.hid hr
  clear hr
  go_enter Tryz.func33, Tryz.ntmps33
  go_wp2_with fail
  all_goals
    go_ret
    refine ⟨congrArg (fun x => Ending.returned (Value.bool x)) ?_, rfl⟩
    rw [← HR.out]
    unfold blankN
    refine Bool.eq_iff_iff.2 ?_
    first
    | (simp; done)
    | (simp; omega)
    | (simp only [beq_iff_eq, beq_eq_false_iff_ne, ne_eq] at *; simp; omega)
theorem rnamed_any (s : ByteArray) (w : World) (hs : s.size ≤ 16777216) :
    Calls Tryz.prog 31 #[.string s] w fun e w' => e = .returned (.bool (arityL s == 0)) ∧ w = w' := by
  have h := rarity_any s w hs
  generalize arityL s = a at *
  go_enter Tryz.func31, Tryz.ntmps31
  go_wp2_with fail
  refine h.mono ?_
  rintro e w' ⟨rfl, rfl⟩
  go_wp2_with fail
  go_ret
  exact ⟨rfl, rfl⟩
/-- what stands ahead of the ! that ends a chunk, two of them being one; the place of that !; is there one? -/
def chB (p : Nat) (acc : List UInt8) : List UInt8 → List UInt8 × Nat × Bool
  | [] => (acc, p, false)
  | [c] => if c = 33 then (acc, p, true) else (acc ++ [c], p + 1, false)
  | c :: d :: l => if c = 33 then (if d = 33 then chB (p + 2) (acc ++ [33]) l else (acc, p, true)) else chB (p + 1) (acc ++ [c]) (d :: l)
theorem chB_end {s : ByteArray} {q : Nat} {acc : List UInt8} (h : s.size ≤ q) : chB q acc ((sb s).drop q) = (acc, q, false) := by
  rw [List.drop_of_length_le (by rw [sb_len]; exact h)]; rfl
theorem chB_go {s : ByteArray} {q : Nat} {acc : List UInt8} (h : q < s.size) (hc : s[q].toNat ≠ 33) : chB q acc ((sb s).drop q) = chB (q + 1) (acc ++ [s[q]]) ((sb s).drop (q + 1)) := by
  have hc' : s[q] ≠ 33 := fun e => hc (by rw [e]; rfl)
  rw [drop_at h]
  cases (sb s).drop (q + 1) with
  | nil =>
    show (if s[q] = 33 then (acc, q, true) else (acc ++ [s[q]], q + 1, false)) = _
    rw [if_neg hc']; rfl
  | cons d l => rw [chB, if_neg hc']
theorem chB_two {s : ByteArray} {q : Nat} {acc : List UInt8} (h : q + 1 < s.size) (hc : s[q].toNat = 33) (hd : s[q + 1].toNat = 33) : chB q acc ((sb s).drop q) = chB (q + 2) (acc ++ [33]) ((sb s).drop (q + 2)) := by
  rw [drop_at (by omega), drop_at h, chB, if_pos (UInt8.toNat_inj.1 hc), if_pos (UInt8.toNat_inj.1 hd)]
theorem chB_stop {s : ByteArray} {q : Nat} {acc : List UInt8} (h : q < s.size) (hc : s[q].toNat = 33) (hd : lookB s (q + 1) ≠ 33) : chB q acc ((sb s).drop q) = (acc, q, true) := by
  rw [drop_at h]
  rcases Nat.lt_or_ge (q + 1) s.size with h1 | h1
  · rw [drop_at h1, chB, if_pos (UInt8.toNat_inj.1 hc), if_neg]
    intro e
    rw [lookB_at h1, e] at hd
    exact hd rfl
  · rw [List.drop_of_length_le (by rw [sb_len]; exact h1), chB, if_pos (UInt8.toNat_inj.1 hc)]
/-- without the blanks at the end -/
def trimR (l : List UInt8) : List UInt8 := (l.reverse.dropWhile fun c => blankN c.toNat).reverse
theorem trimR_blank {l : List UInt8} {c : UInt8} (h : blankN c.toNat = true) : trimR (l ++ [c]) = trimR l := by
  unfold trimR
  rw [List.reverse_append, List.reverse_singleton, List.singleton_append, List.dropWhile_cons, if_pos h]
theorem trimR_stop {l : List UInt8} {c : UInt8} (h : blankN c.toNat = false) : trimR (l ++ [c]) = l ++ [c] := by
  unfold trimR
  rw [List.reverse_append, List.reverse_singleton, List.singleton_append, List.dropWhile_cons, if_neg (by rw [h]; decide), List.reverse_cons, List.reverse_reverse]
/-- a chunk from a place on: its text, where it begins, the place behind its end, whether it ends -/
def chunkR (s : ByteArray) (p : Nat) : List UInt8 × Nat × Nat × Bool :=
  (trimR (chB (runE blankN s p) [] ((sb s).drop (runE blankN s p))).1, runE blankN s p, (chB (runE blankN s p) [] ((sb s).drop (runE blankN s p))).2.1 + 1, (chB (runE blankN s p) [] ((sb s).drop (runE blankN s p))).2.2)
def chunkV (r : List UInt8 × Nat × Nat × Bool) : Value := .tuple #[.string (mkB r.1), .int .i64 (r.2.1 : Int), .int .i64 (r.2.2.1 : Int), .bool r.2.2.2]
theorem rchunk_result {W : World} {a : Array Value} {v4 v5 v6 v7 : Value} (h4 : a[4]?.getD undef = v4) (h5 : a[5]?.getD undef = v5) (h6 : a[6]?.getD undef = v6) (h7 : a[7]?.getD undef = v7) :
    (results Tryz.f19 a).run Tryz.prog W = .ok (.tuple #[v4, v5, v6, v7]) W := by
  simp [results, Tryz.results19, go_sem, h4, h5, h6, h7]
theorem cbZ_at {w : World} {B : Nat} {A : Option Addr} {xs : List UInt8} (h : Rd w B A (cb xs)) {k : Nat} (hk : k < xs.length) : ∃ b off, A = some ⟨b, off, none⟩ ∧ b < B ∧ w.cell? ⟨b, off + k, none⟩ = some (.int .u8 (xs[k].toNat : Int)) := by
  rcases h with h | ⟨b, off, rfl, hb, hc⟩
  · have := congrArg List.length h
    rw [cbC_len] at this
    simp only [List.length_nil] at this
    omega
  · exact ⟨b, off, rfl, hb, hc k _ (by simp [cb, List.getElem?_map, List.getElem?_eq_getElem hk])⟩
set_option maxRecDepth 100000 in
set_option maxHeartbeats 4000000 in
theorem rchunk_any (s : ByteArray) (p : Nat) (w : World) (hs : s.size ≤ 16777216) (hp : p ≤ s.size) :
    Calls Tryz.prog 19 #[.string s, .int .i64 (p : Int)] w fun e w' => e = .returned (chunkV (chunkR s p)) ∧ Below w.heap.size w w' := by
  obtain ⟨A1, hA1⟩ : ∃ A1, runE blankN s p = A1 := ⟨_, rfl⟩
  have hA1s : A1 ≤ s.size := by rw [← hA1]; exact (runE_le hp).2
  have HA := Lib.hid hA1
  obtain ⟨X, hX⟩ : ∃ X, chB A1 [] ((sb s).drop A1) = X := ⟨_, rfl⟩
  have HCR := Lib.hid (show chunkR s p = (trimR X.1, A1, X.2.1 + 1, X.2.2) by unfold chunkR; rw [hA1, hX])
  have HX := Lib.hid hX
  clear hA1 hX
  go_enter Tryz.func19, Tryz.ntmps19
  go_wp2_with fail
  go_loopw [8] (fun v wr => ∃ q : Nat, q ≤ s.size ∧ v = .int .i64 (q : Int) ∧ Hid (runE blankN s q = A1) ∧ w = wr) (fun v _ => s.size - (intOf v).toNat)
  case atStart => exact ⟨p, hp, rfl, HA, rfl⟩
  case round =>
    clear HA
    obtain ⟨q, hq, rfl, HQ, rfl⟩ := hrel
    by_cases hlt : q < s.size
    case neg =>
      have e : A1 = q := by rw [← HQ.out, show q = s.size by omega, runE_end]
      subst e
      go_wp2_with fail
      go_loopw [9, 10] (fun v9 v10 wr => ∃ (i : Nat) (A : Option Addr) (c : Nat) (ts : List UInt8), i ≤ s.size ∧ v9 = .slice A ts.length c ∧ v10 = .int .i64 (i : Int) ∧ ts.length ≤ i ∧ Hid (chB i ts ((sb s).drop i) = X) ∧ Hid (OwnB wr w.heap.size (.slice A ts.length c) ts) ∧ Hid (Below w.heap.size w wr)) (fun _ v10 _ => s.size - (intOf v10).toNat)
      case atStart => exact ⟨A1, none, 0, [], hA1s, rfl, rfl, Nat.zero_le _, HX, Lib.hid (ownB_nil _ _), Lib.hid (Below.refl _ _)⟩
      case round =>
        clear HX HQ
        obtain ⟨i, A, c, ts, hi, rfl, rfl, hts, HT, HO, HB⟩ := hrel
        have hbs := HB.out.size
        obtain ⟨hrd, _, _, hcc⟩ := ownB_rd HO.out
        by_cases hlt2 : i < s.size
        case neg =>
          have HXe := Lib.hid (HT.out.symm.trans (chB_end (by omega)))
          have HCh := Lib.hid (show chunkR s p = (trimR ts, A1, i + 1, false) by rw [HCR.out, HXe.out])
          clear HT HXe
          go_wp2_with fail
          generalize wr = w2 at *
          go_loopw [11] (fun v11 wr => ∃ (n : Nat), n ≤ ts.length ∧ v11 = .int .i64 (n : Int) ∧ Hid (trimR (ts.take n) = trimR ts) ∧ w2 = wr) (fun v11 _ => (intOf v11).toNat)
          case atStart => exact ⟨ts.length, Nat.le_refl _, rfl, Lib.hid (by rw [List.take_length]), rfl⟩
          case round =>
            obtain ⟨n, hn, rfl, HN, rfl⟩ := hrel
            by_cases hn0 : n = 0
            · subst hn0
              have HX3 := Lib.hid (show chunkR s p = ([], A1, i + 1, false) by
                rw [HCh.out]
                have := HN.out
                rw [List.take_zero] at this
                rw [← this]
                rfl)
              have hcv : (convert 72 9 (.slice A 0 c)).run Tryz.prog w2 = .ok (.string (mkB [])) w2 := conv_back (xs := []) (B := 0) c (show Rd w2 0 A [] from .inl rfl)
              clear HN HCh hrd
              go_wp2_with fail
              refine bodyPost_ret (v := chunkV ([], A1, i + 1, false)) (rchunk_result rfl rfl rfl rfl) rfl ?_
              exact ⟨by rw [HX3.out], HB.out⟩
            · obtain ⟨n, rfl⟩ : ∃ m, n = m + 1 := ⟨n - 1, by omega⟩
              have hnl : n < ts.length := by omega
              obtain ⟨g, off, hA, hg, hcell⟩ := cbZ_at hrd hnl
              subst hA
              have hb8 : (ts[n]).toNat < 256 := ts[n].toNat_lt
              have hbl := rblank_any (ts[n]).toNat w2 hb8
              have htk : ts.take (n + 1) = ts.take n ++ [ts[n]] := List.take_succ_eq_append_getElem hnl
              cases hv : blankN (ts[n]).toNat
              · rw [hv] at hbl
                have HX3 := Lib.hid (show chunkR s p = (ts.take (n + 1), A1, i + 1, false) by
                  rw [HCh.out]
                  have := HN.out
                  rw [htk, trimR_stop hv, ← htk] at this
                  rw [← this])
                have hlt4 : (ts.take (n + 1)).length = n + 1 := by rw [List.length_take]; omega
                have hcv := conv_back (xs := ts.take (n + 1)) c (by rw [show cb (ts.take (n + 1)) = (cb ts).take (n + 1) by simp [cb, List.map_take]]; exact hrd.take_ (n + 1))
                rw [hlt4] at hcv
                obtain ⟨ch, hch⟩ : ∃ ch, (ts[n]).toNat = ch := ⟨_, rfl⟩
                rw [hch] at hcell hbl hb8
                clear HN HCh hrd htk hv hlt4 hch
                go_wp2_with (first | (go_at_call 33; refine hbl.mono ?_; rintro e w' ⟨rfl, rfl⟩))
                refine bodyPost_ret (v := chunkV (ts.take (n + 1), A1, i + 1, false)) (rchunk_result rfl rfl rfl rfl) rfl ?_
                exact ⟨by rw [HX3.out], HB.out⟩
              · rw [hv] at hbl
                have HN2 : Hid (trimR (ts.take n) = trimR ts) := Lib.hid (by
                  have := HN.out
                  rw [htk, trimR_blank hv] at this
                  exact this)
                obtain ⟨ch, hch⟩ : ∃ ch, (ts[n]).toNat = ch := ⟨_, rfl⟩
                rw [hch] at hcell hbl hb8
                clear HN HCh hrd htk hv hch
                go_wp2_with (first | (go_at_call 33; refine hbl.mono ?_; rintro e w' ⟨rfl, rfl⟩))
                go_roundw
                case rel => exact ⟨n, by omega, rfl, HN2, trivial⟩
                case measure => simp [intOf]
        have hb9 := s[i].toNat_lt
        by_cases h33 : s[i].toNat = 33
        · have e1 : ((s[i].toNat : Int) == 33) = true := by rw [beq_iff_eq]; omega
          by_cases h2 : lookB s (i + 1) = 33
          · have hi1 : i + 1 < s.size := by
              rcases Nat.lt_or_ge (i + 1) s.size with h | h
              · exact h
              · rw [lookB_no h] at h2; omega
            rw [lookB_at hi1] at h2
            have e2 : ((i : Int) + 1 == (s.size : Int)) = false := by rw [beq_eq_false_iff_ne]; omega
            have e3 : ((s[i + 1].toNat : Int) != 33) = false := by rw [bne_eq_false_iff_eq]; omega
            have HC33 := Lib.hid (show s[i + 1] = 33 from UInt8.toNat_inj.1 h2)
            have HT2 := Lib.hid ((chB_two hi1 h33 h2).symm.trans HT.out)
            have HR1 := Lib.hid (rd_oneB wr s[i + 1])
            have hba : Below wr.heap.size wr (wr.alloc (.cells #[.int .u8 (s[i + 1].toNat : Int)] 5)) := (Below.refl _ _).alloc (Nat.le_refl _) _
            have HO2 := Lib.hid (HO.out.below hba)
            have HB2 := Lib.hid (HB.out.trans (hba.mono HB.out.size))
            have hb9' := s[i + 1].toNat_lt
            clear HT h33 h2 hba hrd hcc
            go_wp2_with (at_builtin; refine wpList_append_u (base := w.heap.size) (v := .slice A ts.length c) (xs := ts) (news := [s[i + 1]]) rfl _ _ rfl rfl rfl HO2.out HR1.out (fun h => by cases h) (by omega) (by simp) (by rw [World.size_alloc]; omega) ?_; intro A4 t4 c4 w4 HT4 HO4 HB4)
            have HB5 := Lib.hid (HB2.out.trans HB4.out.1)
            have hl4 : t4.length ≤ i + 2 := by rw [HT4.out, List.length_append]; simp; omega
            have HT5 : Hid (chB (i + 2) t4 ((sb s).drop (i + 2)) = X) := Lib.hid (by rw [HT4.out, HC33.out]; exact HT2.out)
            go_roundw
            case rel => exact ⟨i + 2, A4, c4, t4, by omega, rfl, rfl, hl4, HT5, HO4, HB5⟩
            case measure => simp [intOf]; omega
          · have HXe := Lib.hid (HT.out.symm.trans (chB_stop hlt2 h33 h2))
            have HCh := Lib.hid (show chunkR s p = (trimR ts, A1, i + 1, true) by rw [HCR.out, HXe.out])
            by_cases hi1 : i + 1 < s.size
            · rw [lookB_at hi1] at h2
              have e2 : ((i : Int) + 1 == (s.size : Int)) = false := by rw [beq_eq_false_iff_ne]; omega
              have e3 : ((s[i + 1].toNat : Int) != 33) = true := by rw [bne_iff_ne]; omega
              clear HT HXe h2 h33
              go_wp2_with fail
              generalize wr = w2 at *
              go_loopw [11] (fun v11 wr => ∃ (n : Nat), n ≤ ts.length ∧ v11 = .int .i64 (n : Int) ∧ Hid (trimR (ts.take n) = trimR ts) ∧ w2 = wr) (fun v11 _ => (intOf v11).toNat)
              case atStart => exact ⟨ts.length, Nat.le_refl _, rfl, Lib.hid (by rw [List.take_length]), rfl⟩
              case round =>
                obtain ⟨n, hn, rfl, HN, rfl⟩ := hrel
                by_cases hn0 : n = 0
                · subst hn0
                  have HX3 := Lib.hid (show chunkR s p = ([], A1, i + 1, true) by
                    rw [HCh.out]
                    have := HN.out
                    rw [List.take_zero] at this
                    rw [← this]
                    rfl)
                  have hcv : (convert 72 9 (.slice A 0 c)).run Tryz.prog w2 = .ok (.string (mkB [])) w2 := conv_back (xs := []) (B := 0) c (show Rd w2 0 A [] from .inl rfl)
                  clear HN HCh hrd
                  go_wp2_with fail
                  refine bodyPost_ret (v := chunkV ([], A1, i + 1, true)) (rchunk_result rfl rfl rfl rfl) rfl ?_
                  exact ⟨by rw [HX3.out], HB.out⟩
                · obtain ⟨n, rfl⟩ : ∃ m, n = m + 1 := ⟨n - 1, by omega⟩
                  have hnl : n < ts.length := by omega
                  obtain ⟨g, off, hA, hg, hcell⟩ := cbZ_at hrd hnl
                  subst hA
                  have hb8 : (ts[n]).toNat < 256 := ts[n].toNat_lt
                  have hbl := rblank_any (ts[n]).toNat w2 hb8
                  have htk : ts.take (n + 1) = ts.take n ++ [ts[n]] := List.take_succ_eq_append_getElem hnl
                  cases hv : blankN (ts[n]).toNat
                  · rw [hv] at hbl
                    have HX3 := Lib.hid (show chunkR s p = (ts.take (n + 1), A1, i + 1, true) by
                      rw [HCh.out]
                      have := HN.out
                      rw [htk, trimR_stop hv, ← htk] at this
                      rw [← this])
                    have hlt4 : (ts.take (n + 1)).length = n + 1 := by rw [List.length_take]; omega
                    have hcv := conv_back (xs := ts.take (n + 1)) c (by rw [show cb (ts.take (n + 1)) = (cb ts).take (n + 1) by simp [cb, List.map_take]]; exact hrd.take_ (n + 1))
                    rw [hlt4] at hcv
                    obtain ⟨ch, hch⟩ : ∃ ch, (ts[n]).toNat = ch := ⟨_, rfl⟩
                    rw [hch] at hcell hbl hb8
                    clear HN HCh hrd htk hv hlt4 hch
                    go_wp2_with (first | (go_at_call 33; refine hbl.mono ?_; rintro e w' ⟨rfl, rfl⟩))
                    refine bodyPost_ret (v := chunkV (ts.take (n + 1), A1, i + 1, true)) (rchunk_result rfl rfl rfl rfl) rfl ?_
                    exact ⟨by rw [HX3.out], HB.out⟩
                  · rw [hv] at hbl
                    have HN2 : Hid (trimR (ts.take n) = trimR ts) := Lib.hid (by
                      have := HN.out
                      rw [htk, trimR_blank hv] at this
                      exact this)
                    obtain ⟨ch, hch⟩ : ∃ ch, (ts[n]).toNat = ch := ⟨_, rfl⟩
                    rw [hch] at hcell hbl hb8
                    clear HN HCh hrd htk hv hch
                    go_wp2_with (first | (go_at_call 33; refine hbl.mono ?_; rintro e w' ⟨rfl, rfl⟩))
                    go_roundw
                    case rel => exact ⟨n, by omega, rfl, HN2, trivial⟩
                    case measure => simp [intOf]
            · have e2 : ((i : Int) + 1 == (s.size : Int)) = true := by rw [beq_iff_eq]; omega
              clear HT HXe h2 h33
              go_wp2_with fail
              generalize wr = w2 at *
              go_loopw [11] (fun v11 wr => ∃ (n : Nat), n ≤ ts.length ∧ v11 = .int .i64 (n : Int) ∧ Hid (trimR (ts.take n) = trimR ts) ∧ w2 = wr) (fun v11 _ => (intOf v11).toNat)
              case atStart => exact ⟨ts.length, Nat.le_refl _, rfl, Lib.hid (by rw [List.take_length]), rfl⟩
              case round =>
                obtain ⟨n, hn, rfl, HN, rfl⟩ := hrel
                by_cases hn0 : n = 0
                · subst hn0
                  have HX3 := Lib.hid (show chunkR s p = ([], A1, i + 1, true) by
                    rw [HCh.out]
                    have := HN.out
                    rw [List.take_zero] at this
                    rw [← this]
                    rfl)
                  have hcv : (convert 72 9 (.slice A 0 c)).run Tryz.prog w2 = .ok (.string (mkB [])) w2 := conv_back (xs := []) (B := 0) c (show Rd w2 0 A [] from .inl rfl)
                  clear HN HCh hrd
                  go_wp2_with fail
                  refine bodyPost_ret (v := chunkV ([], A1, i + 1, true)) (rchunk_result rfl rfl rfl rfl) rfl ?_
                  exact ⟨by rw [HX3.out], HB.out⟩
                · obtain ⟨n, rfl⟩ : ∃ m, n = m + 1 := ⟨n - 1, by omega⟩
                  have hnl : n < ts.length := by omega
                  obtain ⟨g, off, hA, hg, hcell⟩ := cbZ_at hrd hnl
                  subst hA
                  have hb8 : (ts[n]).toNat < 256 := ts[n].toNat_lt
                  have hbl := rblank_any (ts[n]).toNat w2 hb8
                  have htk : ts.take (n + 1) = ts.take n ++ [ts[n]] := List.take_succ_eq_append_getElem hnl
                  cases hv : blankN (ts[n]).toNat
                  · rw [hv] at hbl
                    have HX3 := Lib.hid (show chunkR s p = (ts.take (n + 1), A1, i + 1, true) by
                      rw [HCh.out]
                      have := HN.out
                      rw [htk, trimR_stop hv, ← htk] at this
                      rw [← this])
                    have hlt4 : (ts.take (n + 1)).length = n + 1 := by rw [List.length_take]; omega
                    have hcv := conv_back (xs := ts.take (n + 1)) c (by rw [show cb (ts.take (n + 1)) = (cb ts).take (n + 1) by simp [cb, List.map_take]]; exact hrd.take_ (n + 1))
                    rw [hlt4] at hcv
                    obtain ⟨ch, hch⟩ : ∃ ch, (ts[n]).toNat = ch := ⟨_, rfl⟩
                    rw [hch] at hcell hbl hb8
                    clear HN HCh hrd htk hv hlt4 hch
                    go_wp2_with (first | (go_at_call 33; refine hbl.mono ?_; rintro e w' ⟨rfl, rfl⟩))
                    refine bodyPost_ret (v := chunkV (ts.take (n + 1), A1, i + 1, true)) (rchunk_result rfl rfl rfl rfl) rfl ?_
                    exact ⟨by rw [HX3.out], HB.out⟩
                  · rw [hv] at hbl
                    have HN2 : Hid (trimR (ts.take n) = trimR ts) := Lib.hid (by
                      have := HN.out
                      rw [htk, trimR_blank hv] at this
                      exact this)
                    obtain ⟨ch, hch⟩ : ∃ ch, (ts[n]).toNat = ch := ⟨_, rfl⟩
                    rw [hch] at hcell hbl hb8
                    clear HN HCh hrd htk hv hch
                    go_wp2_with (first | (go_at_call 33; refine hbl.mono ?_; rintro e w' ⟨rfl, rfl⟩))
                    go_roundw
                    case rel => exact ⟨n, by omega, rfl, HN2, trivial⟩
                    case measure => simp [intOf]
        · have e1 : ((s[i].toNat : Int) == 33) = false := by rw [beq_eq_false_iff_ne]; omega
          have HT2 := Lib.hid ((chB_go hlt2 h33).symm.trans HT.out)
          have HR1 := Lib.hid (rd_oneB wr s[i])
          have hba : Below wr.heap.size wr (wr.alloc (.cells #[.int .u8 (s[i].toNat : Int)] 5)) := (Below.refl _ _).alloc (Nat.le_refl _) _
          have HO2 := Lib.hid (HO.out.below hba)
          have HB2 := Lib.hid (HB.out.trans (hba.mono HB.out.size))
          clear HT h33 hba hrd hcc
          go_wp2_with (at_builtin; refine wpList_append_u (base := w.heap.size) (v := .slice A ts.length c) (xs := ts) (news := [s[i]]) rfl _ _ rfl rfl rfl HO2.out HR1.out (fun h => by cases h) (by omega) (by simp) (by rw [World.size_alloc]; omega) ?_; intro A4 t4 c4 w4 HT4 HO4 HB4)
          have HB5 := Lib.hid (HB2.out.trans HB4.out.1)
          have hl4 : t4.length ≤ i + 1 := by rw [HT4.out, List.length_append]; simp; omega
          have HT5 : Hid (chB (i + 1) t4 ((sb s).drop (i + 1)) = X) := Lib.hid (by rw [HT4.out]; exact HT2.out)
          go_roundw
          case rel => exact ⟨i + 1, A4, c4, t4, hlt2, rfl, rfl, hl4, HT5, HO4, HB5⟩
          case measure => simp [intOf]; omega
    have hb8 := s[q].toNat_lt
    have hbl := rblank_any s[q].toNat w hb8
    cases hv : blankN s[q].toNat
    · rw [hv] at hbl
      have e : A1 = q := by rw [← HQ.out, runE_stop hlt hv]
      subst e
      clear hv
      go_wp2_with (first | (go_at_call 33; refine hbl.mono ?_; rintro e w' ⟨rfl, rfl⟩))
      clear hbl
      go_loopw [9, 10] (fun v9 v10 wr => ∃ (i : Nat) (A : Option Addr) (c : Nat) (ts : List UInt8), i ≤ s.size ∧ v9 = .slice A ts.length c ∧ v10 = .int .i64 (i : Int) ∧ ts.length ≤ i ∧ Hid (chB i ts ((sb s).drop i) = X) ∧ Hid (OwnB wr w.heap.size (.slice A ts.length c) ts) ∧ Hid (Below w.heap.size w wr)) (fun _ v10 _ => s.size - (intOf v10).toNat)
      case atStart => exact ⟨A1, none, 0, [], hA1s, rfl, rfl, Nat.zero_le _, HX, Lib.hid (ownB_nil _ _), Lib.hid (Below.refl _ _)⟩
      case round =>
        clear HX HQ
        obtain ⟨i, A, c, ts, hi, rfl, rfl, hts, HT, HO, HB⟩ := hrel
        have hbs := HB.out.size
        obtain ⟨hrd, _, _, hcc⟩ := ownB_rd HO.out
        by_cases hlt2 : i < s.size
        case neg =>
          have HXe := Lib.hid (HT.out.symm.trans (chB_end (by omega)))
          have HCh := Lib.hid (show chunkR s p = (trimR ts, A1, i + 1, false) by rw [HCR.out, HXe.out])
          clear HT HXe
          go_wp2_with fail
          generalize wr = w2 at *
          go_loopw [11] (fun v11 wr => ∃ (n : Nat), n ≤ ts.length ∧ v11 = .int .i64 (n : Int) ∧ Hid (trimR (ts.take n) = trimR ts) ∧ w2 = wr) (fun v11 _ => (intOf v11).toNat)
          case atStart => exact ⟨ts.length, Nat.le_refl _, rfl, Lib.hid (by rw [List.take_length]), rfl⟩
          case round =>
            obtain ⟨n, hn, rfl, HN, rfl⟩ := hrel
            by_cases hn0 : n = 0
            · subst hn0
              have HX3 := Lib.hid (show chunkR s p = ([], A1, i + 1, false) by
                rw [HCh.out]
                have := HN.out
                rw [List.take_zero] at this
                rw [← this]
                rfl)
              have hcv : (convert 72 9 (.slice A 0 c)).run Tryz.prog w2 = .ok (.string (mkB [])) w2 := conv_back (xs := []) (B := 0) c (show Rd w2 0 A [] from .inl rfl)
              clear HN HCh hrd
              go_wp2_with fail
              refine bodyPost_ret (v := chunkV ([], A1, i + 1, false)) (rchunk_result rfl rfl rfl rfl) rfl ?_
              exact ⟨by rw [HX3.out], HB.out⟩
            · obtain ⟨n, rfl⟩ : ∃ m, n = m + 1 := ⟨n - 1, by omega⟩
              have hnl : n < ts.length := by omega
              obtain ⟨g, off, hA, hg, hcell⟩ := cbZ_at hrd hnl
              subst hA
              have hb8 : (ts[n]).toNat < 256 := ts[n].toNat_lt
              have hbl := rblank_any (ts[n]).toNat w2 hb8
              have htk : ts.take (n + 1) = ts.take n ++ [ts[n]] := List.take_succ_eq_append_getElem hnl
              cases hv : blankN (ts[n]).toNat
              · rw [hv] at hbl
                have HX3 := Lib.hid (show chunkR s p = (ts.take (n + 1), A1, i + 1, false) by
                  rw [HCh.out]
                  have := HN.out
                  rw [htk, trimR_stop hv, ← htk] at this
                  rw [← this])
                have hlt4 : (ts.take (n + 1)).length = n + 1 := by rw [List.length_take]; omega
                have hcv := conv_back (xs := ts.take (n + 1)) c (by rw [show cb (ts.take (n + 1)) = (cb ts).take (n + 1) by simp [cb, List.map_take]]; exact hrd.take_ (n + 1))
                rw [hlt4] at hcv
                obtain ⟨ch, hch⟩ : ∃ ch, (ts[n]).toNat = ch := ⟨_, rfl⟩
                rw [hch] at hcell hbl hb8
                clear HN HCh hrd htk hv hlt4 hch
                go_wp2_with (first | (go_at_call 33; refine hbl.mono ?_; rintro e w' ⟨rfl, rfl⟩))
                refine bodyPost_ret (v := chunkV (ts.take (n + 1), A1, i + 1, false)) (rchunk_result rfl rfl rfl rfl) rfl ?_
                exact ⟨by rw [HX3.out], HB.out⟩
              · rw [hv] at hbl
                have HN2 : Hid (trimR (ts.take n) = trimR ts) := Lib.hid (by
                  have := HN.out
                  rw [htk, trimR_blank hv] at this
                  exact this)
                obtain ⟨ch, hch⟩ : ∃ ch, (ts[n]).toNat = ch := ⟨_, rfl⟩
                rw [hch] at hcell hbl hb8
                clear HN HCh hrd htk hv hch
                go_wp2_with (first | (go_at_call 33; refine hbl.mono ?_; rintro e w' ⟨rfl, rfl⟩))
                go_roundw
                case rel => exact ⟨n, by omega, rfl, HN2, trivial⟩
                case measure => simp [intOf]
        have hb9 := s[i].toNat_lt
        by_cases h33 : s[i].toNat = 33
        · have e1 : ((s[i].toNat : Int) == 33) = true := by rw [beq_iff_eq]; omega
          by_cases h2 : lookB s (i + 1) = 33
          · have hi1 : i + 1 < s.size := by
              rcases Nat.lt_or_ge (i + 1) s.size with h | h
              · exact h
              · rw [lookB_no h] at h2; omega
            rw [lookB_at hi1] at h2
            have e2 : ((i : Int) + 1 == (s.size : Int)) = false := by rw [beq_eq_false_iff_ne]; omega
            have e3 : ((s[i + 1].toNat : Int) != 33) = false := by rw [bne_eq_false_iff_eq]; omega
            have HC33 := Lib.hid (show s[i + 1] = 33 from UInt8.toNat_inj.1 h2)
            have HT2 := Lib.hid ((chB_two hi1 h33 h2).symm.trans HT.out)
            have HR1 := Lib.hid (rd_oneB wr s[i + 1])
            have hba : Below wr.heap.size wr (wr.alloc (.cells #[.int .u8 (s[i + 1].toNat : Int)] 5)) := (Below.refl _ _).alloc (Nat.le_refl _) _
            have HO2 := Lib.hid (HO.out.below hba)
            have HB2 := Lib.hid (HB.out.trans (hba.mono HB.out.size))
            have hb9' := s[i + 1].toNat_lt
            clear HT h33 h2 hba hrd hcc
            go_wp2_with (at_builtin; refine wpList_append_u (base := w.heap.size) (v := .slice A ts.length c) (xs := ts) (news := [s[i + 1]]) rfl _ _ rfl rfl rfl HO2.out HR1.out (fun h => by cases h) (by omega) (by simp) (by rw [World.size_alloc]; omega) ?_; intro A4 t4 c4 w4 HT4 HO4 HB4)
            have HB5 := Lib.hid (HB2.out.trans HB4.out.1)
            have hl4 : t4.length ≤ i + 2 := by rw [HT4.out, List.length_append]; simp; omega
            have HT5 : Hid (chB (i + 2) t4 ((sb s).drop (i + 2)) = X) := Lib.hid (by rw [HT4.out, HC33.out]; exact HT2.out)
            go_roundw
            case rel => exact ⟨i + 2, A4, c4, t4, by omega, rfl, rfl, hl4, HT5, HO4, HB5⟩
            case measure => simp [intOf]; omega
          · have HXe := Lib.hid (HT.out.symm.trans (chB_stop hlt2 h33 h2))
            have HCh := Lib.hid (show chunkR s p = (trimR ts, A1, i + 1, true) by rw [HCR.out, HXe.out])
            by_cases hi1 : i + 1 < s.size
            · rw [lookB_at hi1] at h2
              have e2 : ((i : Int) + 1 == (s.size : Int)) = false := by rw [beq_eq_false_iff_ne]; omega
              have e3 : ((s[i + 1].toNat : Int) != 33) = true := by rw [bne_iff_ne]; omega
              clear HT HXe h2 h33
              go_wp2_with fail
              generalize wr = w2 at *
              go_loopw [11] (fun v11 wr => ∃ (n : Nat), n ≤ ts.length ∧ v11 = .int .i64 (n : Int) ∧ Hid (trimR (ts.take n) = trimR ts) ∧ w2 = wr) (fun v11 _ => (intOf v11).toNat)
              case atStart => exact ⟨ts.length, Nat.le_refl _, rfl, Lib.hid (by rw [List.take_length]), rfl⟩
              case round =>
                obtain ⟨n, hn, rfl, HN, rfl⟩ := hrel
                by_cases hn0 : n = 0
                · subst hn0
                  have HX3 := Lib.hid (show chunkR s p = ([], A1, i + 1, true) by
                    rw [HCh.out]
                    have := HN.out
                    rw [List.take_zero] at this
                    rw [← this]
                    rfl)
                  have hcv : (convert 72 9 (.slice A 0 c)).run Tryz.prog w2 = .ok (.string (mkB [])) w2 := conv_back (xs := []) (B := 0) c (show Rd w2 0 A [] from .inl rfl)
                  clear HN HCh hrd
                  go_wp2_with fail
                  refine bodyPost_ret (v := chunkV ([], A1, i + 1, true)) (rchunk_result rfl rfl rfl rfl) rfl ?_
                  exact ⟨by rw [HX3.out], HB.out⟩
                · obtain ⟨n, rfl⟩ : ∃ m, n = m + 1 := ⟨n - 1, by omega⟩
                  have hnl : n < ts.length := by omega
                  obtain ⟨g, off, hA, hg, hcell⟩ := cbZ_at hrd hnl
                  subst hA
                  have hb8 : (ts[n]).toNat < 256 := ts[n].toNat_lt
                  have hbl := rblank_any (ts[n]).toNat w2 hb8
                  have htk : ts.take (n + 1) = ts.take n ++ [ts[n]] := List.take_succ_eq_append_getElem hnl
                  cases hv : blankN (ts[n]).toNat
                  · rw [hv] at hbl
                    have HX3 := Lib.hid (show chunkR s p = (ts.take (n + 1), A1, i + 1, true) by
                      rw [HCh.out]
                      have := HN.out
                      rw [htk, trimR_stop hv, ← htk] at this
                      rw [← this])
                    have hlt4 : (ts.take (n + 1)).length = n + 1 := by rw [List.length_take]; omega
                    have hcv := conv_back (xs := ts.take (n + 1)) c (by rw [show cb (ts.take (n + 1)) = (cb ts).take (n + 1) by simp [cb, List.map_take]]; exact hrd.take_ (n + 1))
                    rw [hlt4] at hcv
                    obtain ⟨ch, hch⟩ : ∃ ch, (ts[n]).toNat = ch := ⟨_, rfl⟩
                    rw [hch] at hcell hbl hb8
                    clear HN HCh hrd htk hv hlt4 hch
                    go_wp2_with (first | (go_at_call 33; refine hbl.mono ?_; rintro e w' ⟨rfl, rfl⟩))
                    refine bodyPost_ret (v := chunkV (ts.take (n + 1), A1, i + 1, true)) (rchunk_result rfl rfl rfl rfl) rfl ?_
                    exact ⟨by rw [HX3.out], HB.out⟩
                  · rw [hv] at hbl
                    have HN2 : Hid (trimR (ts.take n) = trimR ts) := Lib.hid (by
                      have := HN.out
                      rw [htk, trimR_blank hv] at this
                      exact this)
                    obtain ⟨ch, hch⟩ : ∃ ch, (ts[n]).toNat = ch := ⟨_, rfl⟩
                    rw [hch] at hcell hbl hb8
                    clear HN HCh hrd htk hv hch
                    go_wp2_with (first | (go_at_call 33; refine hbl.mono ?_; rintro e w' ⟨rfl, rfl⟩))
                    go_roundw
                    case rel => exact ⟨n, by omega, rfl, HN2, trivial⟩
                    case measure => simp [intOf]
            · have e2 : ((i : Int) + 1 == (s.size : Int)) = true := by rw [beq_iff_eq]; omega
              clear HT HXe h2 h33
              go_wp2_with fail
              generalize wr = w2 at *
              go_loopw [11] (fun v11 wr => ∃ (n : Nat), n ≤ ts.length ∧ v11 = .int .i64 (n : Int) ∧ Hid (trimR (ts.take n) = trimR ts) ∧ w2 = wr) (fun v11 _ => (intOf v11).toNat)
              case atStart => exact ⟨ts.length, Nat.le_refl _, rfl, Lib.hid (by rw [List.take_length]), rfl⟩
              case round =>
                obtain ⟨n, hn, rfl, HN, rfl⟩ := hrel
                by_cases hn0 : n = 0
                · subst hn0
                  have HX3 := Lib.hid (show chunkR s p = ([], A1, i + 1, true) by
                    rw [HCh.out]
                    have := HN.out
                    rw [List.take_zero] at this
                    rw [← this]
                    rfl)
                  have hcv : (convert 72 9 (.slice A 0 c)).run Tryz.prog w2 = .ok (.string (mkB [])) w2 := conv_back (xs := []) (B := 0) c (show Rd w2 0 A [] from .inl rfl)
                  clear HN HCh hrd
                  go_wp2_with fail
                  refine bodyPost_ret (v := chunkV ([], A1, i + 1, true)) (rchunk_result rfl rfl rfl rfl) rfl ?_
                  exact ⟨by rw [HX3.out], HB.out⟩
                · obtain ⟨n, rfl⟩ : ∃ m, n = m + 1 := ⟨n - 1, by omega⟩
                  have hnl : n < ts.length := by omega
                  obtain ⟨g, off, hA, hg, hcell⟩ := cbZ_at hrd hnl
                  subst hA
                  have hb8 : (ts[n]).toNat < 256 := ts[n].toNat_lt
                  have hbl := rblank_any (ts[n]).toNat w2 hb8
                  have htk : ts.take (n + 1) = ts.take n ++ [ts[n]] := List.take_succ_eq_append_getElem hnl
                  cases hv : blankN (ts[n]).toNat
                  · rw [hv] at hbl
                    have HX3 := Lib.hid (show chunkR s p = (ts.take (n + 1), A1, i + 1, true) by
                      rw [HCh.out]
                      have := HN.out
                      rw [htk, trimR_stop hv, ← htk] at this
                      rw [← this])
                    have hlt4 : (ts.take (n + 1)).length = n + 1 := by rw [List.length_take]; omega
                    have hcv := conv_back (xs := ts.take (n + 1)) c (by rw [show cb (ts.take (n + 1)) = (cb ts).take (n + 1) by simp [cb, List.map_take]]; exact hrd.take_ (n + 1))
                    rw [hlt4] at hcv
                    obtain ⟨ch, hch⟩ : ∃ ch, (ts[n]).toNat = ch := ⟨_, rfl⟩
                    rw [hch] at hcell hbl hb8
                    clear HN HCh hrd htk hv hlt4 hch
                    go_wp2_with (first | (go_at_call 33; refine hbl.mono ?_; rintro e w' ⟨rfl, rfl⟩))
                    refine bodyPost_ret (v := chunkV (ts.take (n + 1), A1, i + 1, true)) (rchunk_result rfl rfl rfl rfl) rfl ?_
                    exact ⟨by rw [HX3.out], HB.out⟩
                  · rw [hv] at hbl
                    have HN2 : Hid (trimR (ts.take n) = trimR ts) := Lib.hid (by
                      have := HN.out
                      rw [htk, trimR_blank hv] at this
                      exact this)
                    obtain ⟨ch, hch⟩ : ∃ ch, (ts[n]).toNat = ch := ⟨_, rfl⟩
                    rw [hch] at hcell hbl hb8
                    clear HN HCh hrd htk hv hch
                    go_wp2_with (first | (go_at_call 33; refine hbl.mono ?_; rintro e w' ⟨rfl, rfl⟩))
                    go_roundw
                    case rel => exact ⟨n, by omega, rfl, HN2, trivial⟩
                    case measure => simp [intOf]
        · have e1 : ((s[i].toNat : Int) == 33) = false := by rw [beq_eq_false_iff_ne]; omega
          have HT2 := Lib.hid ((chB_go hlt2 h33).symm.trans HT.out)
          have HR1 := Lib.hid (rd_oneB wr s[i])
          have hba : Below wr.heap.size wr (wr.alloc (.cells #[.int .u8 (s[i].toNat : Int)] 5)) := (Below.refl _ _).alloc (Nat.le_refl _) _
          have HO2 := Lib.hid (HO.out.below hba)
          have HB2 := Lib.hid (HB.out.trans (hba.mono HB.out.size))
          clear HT h33 hba hrd hcc
          go_wp2_with (at_builtin; refine wpList_append_u (base := w.heap.size) (v := .slice A ts.length c) (xs := ts) (news := [s[i]]) rfl _ _ rfl rfl rfl HO2.out HR1.out (fun h => by cases h) (by omega) (by simp) (by rw [World.size_alloc]; omega) ?_; intro A4 t4 c4 w4 HT4 HO4 HB4)
          have HB5 := Lib.hid (HB2.out.trans HB4.out.1)
          have hl4 : t4.length ≤ i + 1 := by rw [HT4.out, List.length_append]; simp; omega
          have HT5 : Hid (chB (i + 1) t4 ((sb s).drop (i + 1)) = X) := Lib.hid (by rw [HT4.out]; exact HT2.out)
          go_roundw
          case rel => exact ⟨i + 1, A4, c4, t4, hlt2, rfl, rfl, hl4, HT5, HO4, HB5⟩
          case measure => simp [intOf]; omega
    · rw [hv] at hbl
      have HS := Lib.hid ((runE_step hlt hv).symm.trans HQ.out)
      clear hv
      go_wp2_with (first | (go_at_call 33; refine hbl.mono ?_; rintro e w' ⟨rfl, rfl⟩))
      go_roundw
      case rel => exact ⟨q + 1, hlt, rfl, HS, trivial⟩
      case measure => simp [intOf]; omega
end Go.Proofs.YtponopcnndkalaaGreatDoor.Fl

/-
  The document's words between blanks; what is a token's kind and word; a header.
-/
namespace Go.Proofs.YtponopcnndkalaaGreatDoor.Fl
open Go.RowKit

/-! ### a row of texts of the call's own -/
def cs_ (l : List (List UInt8)) : List Value := l.map fun x => .string (mkB x)
theorem cs_len (l : List (List UInt8)) : (cs_ l).length = l.length := by simp [cs_]
theorem cs_app (l m : List (List UInt8)) : cs_ (l ++ m) = cs_ l ++ cs_ m := by simp [cs_]
theorem cs_one (l : List (List UInt8)) : ∀ v ∈ cs_ l, v.oneCell' = true := by
  intro v h
  simp only [cs_, List.mem_map] at h
  obtain ⟨c, _, rfl⟩ := h
  rfl
theorem strInfo : (Tryz.prog.info? 9).map (fun i => (i.zero, i.size, i.bytes)) = some (some (.string ⟨#[]⟩), 1, 16) := by kernel_rfl
def OwnS (w : World) (base : Nat) (v : Value) (l : List (List UInt8)) : Prop := w.ownsRow base 9 1 v l.length (cs_ l)
theorem OwnS.below {w w' : World} {base : Nat} {v : Value} {xs : List (List UInt8)} (h : OwnS w base v xs) (hb : Below w.heap.size w w') : OwnS w' base v xs :=
  ⟨h.1, h.2.elim .inl fun ⟨g, cap, cur, hv, hbg, hg, r⟩ => .inr ⟨g, cap, cur, hv, hbg, (hb.block g (lt_of_blkC hg)).trans hg, r⟩⟩
theorem ownS_nil (w : World) (base : Nat) : OwnS w base (.slice none 0 0) [] := World.ownsRow_nil _ _ _ _
theorem wpList_append_s {w : World} {base c : Nat} {A : Option Addr} {xs news : List (List UInt8)} {v : Value} {ops : Array Oper} {rest : List Oper} {o : Oper} {a : Act} {Q : Exit → Act → World → Prop} (hg : o.guard = none) (s x : Operand) (ho : o.op = .call { callee := .builtin .append, args := #[s, x], argTypes := #[38, 38] })
    (hs : a.eval s = v) (hx : a.eval x = .slice A news.length c) (hown : OwnS w base v xs) (hr : Rd w w.heap.size A (cs_ news)) (hA : A = none → news.length = 0) (hl : xs.length ≤ 100000000) (hl2 : news.length ≤ 100000000) (hb : base ≤ w.heap.size)
    (h : ∀ A' ts c' w', Hid (ts = xs ++ news) → Hid (OwnS w' base (.slice A' ts.length c') ts) → Hid (Below base w w' ∧ (∀ k, k < w.heap.size → some k ≠ v.ownBlock → w'.heap[k]? = w.heap[k]?) ∧ ((Value.slice A' ts.length c').ownBlock = v.ownBlock ∨ (Value.slice A' ts.length c').ownBlock = some w.heap.size)) → wpList Tryz.prog ops Q rest (a.put o.dst (.slice A' ts.length c')) w') : wpList Tryz.prog ops Q (o :: rest) a w := by
  obtain ⟨i0, hi, hz0, hz1, hz2⟩ := info_parts strInfo
  refine wpList_append_rd (base := base) (size := 1) (bytes := 16) (n := xs.length) (m := news.length) (c := c) (v := v) (xs := cs_ xs) (news := cs_ news) hg s x ho Tryz.underlying38 hi hz0 hz1 hz2 rfl (by decide) hs hx hown hr (by rw [cs_len, Nat.mul_one]) hA (cs_one news) (by unfold maxLen; omega) (by omega) hb ?_
  intro v' w' happ
  obtain ⟨A', c', rfl, _, _⟩ := happ.slice
  have e : xs.length + news.length = (xs ++ news).length := by simp
  have ho := happ.own
  have hat := happ.at_
  rw [e, show cs_ xs ++ cs_ news = cs_ (xs ++ news) from (cs_app _ _).symm] at ho
  rw [e] at hat ⊢
  exact h A' (xs ++ news) c' w' (Lib.hid rfl) (Lib.hid ho) (Lib.hid ⟨(Below.refl _ _).grown happ.grown hb (fun j hj => (World.ownsRow.lt hown j hj).1), happ.grown.block, hat⟩)
theorem ownS_rd {w : World} {base n c : Nat} {A : Option Addr} {xs : List (List UInt8)} (h : OwnS w base (.slice A n c) xs) : Rd w w.heap.size A (cs_ xs) ∧ (A = none → xs.length = 0) ∧ n = xs.length ∧ n ≤ c := by
  rcases h.2 with ⟨e1, e2⟩ | ⟨g, cap, cur, e1, hb, hg, hc, _, _, ht⟩
  · injection e1 with e1 e3 e4
    rw [List.eq_nil_of_length_eq_zero e2]
    exact ⟨.inl rfl, fun _ => rfl, e3, by omega⟩
  · injection e1 with e1 e3 e4
    subst e1
    refine ⟨.inr ⟨g, 0, rfl, lt_of_blkC hg, fun j v hj => ?_⟩, (fun h => by cases h), e3, by omega⟩
    have hjl : j < xs.length * 1 := by
      rcases Nat.lt_or_ge j (cs_ xs).length with h1 | h1
      · rwa [cs_len, ← Nat.mul_one xs.length] at h1
      · rw [List.getElem?_eq_none h1] at hj; cases hj
    rw [Nat.zero_add, cell_of_row w g j _ _ _ hg, ← hj, ← ht, List.getElem?_take, if_pos (by omega)]
    simp
theorem rd_oneS (w : World) (x : ByteArray) : Rd (w.alloc (.cells #[.string x] 9)) (w.alloc (.cells #[.string x] 9)).heap.size (some ⟨w.heap.size, 0, none⟩) (cs_ [sb x]) := by
  refine .inr ⟨w.heap.size, 0, by rfl, by rw [World.size_alloc]; omega, fun j v hj => ?_⟩
  have hj0 : j = 0 := by
    rcases j with _ | j
    · rfl
    · simp [cs_] at hj
  subst hj0
  rw [Nat.zero_add, cell_of_row _ _ _ _ _ _ (heap_alloc_new w _)]
  rw [← hj]
  simp only [cs_, List.map_cons, List.map_nil, List.getElem?_cons_zero]
  rw [show mkB (sb x) = x from mk_sb x]
  rfl
/-! ### words -/
def wordsA (cur : List UInt8) : List UInt8 → List (List UInt8)
  | [] => if cur = [] then [] else [cur]
  | c :: l => if blankN c.toNat = true then (if cur = [] then wordsA [] l else cur :: wordsA [] l) else wordsA (cur ++ [c]) l
theorem wordsA_end {s : ByteArray} {cur : List UInt8} : wordsA cur ((sb s).drop s.size) = if cur = [] then [] else [cur] := by
  rw [List.drop_of_length_le (by rw [sb_len]; exact Nat.le_refl _)]; rfl
theorem wordsA_go {s : ByteArray} {q : Nat} {cur : List UInt8} (h : q < s.size) : wordsA cur ((sb s).drop q) = if blankN s[q].toNat = true then (if cur = [] then wordsA [] ((sb s).drop (q + 1)) else cur :: wordsA [] ((sb s).drop (q + 1))) else wordsA (cur ++ [s[q]]) ((sb s).drop (q + 1)) := by
  rw [drop_at h, wordsA]
theorem mid_more {s : ByteArray} {f q : Nat} (hf : f ≤ q) (h : q < s.size) : midL s f (q + 1) = midL s f q ++ [s[q]] := by
  unfold midL
  rw [sb_take s q h, List.drop_append_of_le_length]
  rw [List.length_take, sb_len]; omega
theorem mid_nil {s : ByteArray} {f q : Nat} (hq : q ≤ s.size) (h : f ≤ q) : midL s f q = [] ↔ f = q := by
  have := midL_len s (a := f) hq
  constructor
  · intro e
    rw [e] at this
    simp only [List.length_nil] at this
    omega
  · rintro rfl
    exact mid_same s f
def WordsPost (s : ByteArray) (w : World) (e : Ending) (w' : World) : Prop :=
  Below w.heap.size w w' ∧ ∃ A c, e = .returned (.slice A (wordsA [] (sb s)).length c) ∧ OwnS w' w.heap.size (.slice A (wordsA [] (sb s)).length c) (wordsA [] (sb s))
set_option maxRecDepth 100000 in
set_option maxHeartbeats 4000000 in
theorem rwords_any (s : ByteArray) (w : World) (hs : s.size ≤ 16777216) :
    Calls Tryz.prog 39 #[.string s] w (WordsPost s w) := by
  obtain ⟨r, hr⟩ : ∃ r, wordsA [] (sb s) = r := ⟨_, rfl⟩
  have HR := Lib.hid hr
  have HRr := Lib.hid hr
  clear hr
  go_enter Tryz.func39, Tryz.ntmps39
  go_wp2_with fail
  go_loopw [3, 4, 5] (fun v3 v4 v5 wr => ∃ (f q : Nat) (A : Option Addr) (c : Nat) (ts : List (List UInt8)), f ≤ q ∧ q ≤ s.size + 1 ∧ v3 = .slice A ts.length c ∧ v4 = .int .i64 (f : Int) ∧ v5 = .int .i64 (q : Int) ∧ ts.length ≤ q ∧ Hid ((q ≤ s.size ∧ ts ++ wordsA (midL s f q) ((sb s).drop q) = r) ∨ (q = s.size + 1 ∧ ts = r)) ∧ Hid (OwnS wr w.heap.size (.slice A ts.length c) ts) ∧ Hid (Below w.heap.size w wr)) (fun _ _ v5 _ => s.size + 1 - (intOf v5).toNat)
  case atStart => exact ⟨0, 0, none, 0, [], Nat.le_refl _, by omega, rfl, rfl, rfl, Nat.le_refl _, Lib.hid (.inl ⟨Nat.zero_le _, by rw [mid_same]; exact HR.out⟩), Lib.hid (ownS_nil _ _), Lib.hid (Below.refl _ _)⟩
  case round =>
    clear HR
    obtain ⟨f, q, A, c, ts, hfq, hq, rfl, rfl, rfl, hts, HT, HO, HB⟩ := hrel
    have hbs := HB.out.size
    by_cases hend : q = s.size + 1
    · have HE : Hid (ts = r) := Lib.hid (by
        rcases HT.out with ⟨h, _⟩ | ⟨_, h⟩
        · omega
        · exact h)
      have hlq : ¬ ((q : Int) ≤ (s.size : Int)) := by omega
      clear HT hend
      go_wp2_with fail
      go_ret
      have hr2 := HRr.out
      rw [← HE.out] at hr2
      refine ⟨HB.out, A, c, ?_, ?_⟩
      · rw [hr2]; rfl
      · rw [hr2]; exact HO.out
    have hqs : q ≤ s.size := by omega
    have HT1 : Hid (ts ++ wordsA (midL s f q) ((sb s).drop q) = r) := Lib.hid (by
      rcases HT.out with ⟨_, h⟩ | ⟨h, _⟩
      · exact h
      · omega)
    have HM := Lib.hid (mid_eq s f q)
    clear HT hend hq
    by_cases hlt : q < s.size
    case neg =>
      have e : q = s.size := by omega
      have hqb : ((q : Int) == (s.size : Int)) = true := by rw [beq_iff_eq]; omega
      have HT2 := HT1.out
      rw [e, wordsA_end, ← e] at HT2
      by_cases hf : f < q
      · have hne : midL s f q ≠ [] := fun h => by have := (mid_nil hqs hfq).1 h; omega
        rw [if_neg hne] at HT2
        have HT3 := Lib.hid HT2
        have HR1 := Lib.hid (rd_oneS wr (s.extract f q))
        have hba : Below wr.heap.size wr (wr.alloc (.cells #[.string (s.extract f q)] 9)) := (Below.refl _ _).alloc (Nat.le_refl _) _
        have HO2 := Lib.hid (HO.out.below hba)
        have HB2 := Lib.hid (HB.out.trans (hba.mono HB.out.size))
        have HE := Lib.hid (show q + 1 = s.size + 1 by omega)
        clear HT1 HT2 hba e hne
        go_wp2_with (at_builtin; refine wpList_append_s (base := w.heap.size) (v := .slice A ts.length c) (xs := ts) (news := [sb (s.extract f q)]) rfl _ _ rfl rfl rfl HO2.out HR1.out (fun h => by cases h) (by omega) (by simp) (by rw [World.size_alloc]; omega) ?_; intro A4 t4 c4 w4 HT4 HO4 HB4)
        have HB5 := Lib.hid (HB2.out.trans HB4.out.1)
        have hl4 : t4.length ≤ q + 1 := by rw [HT4.out, List.length_append]; simp; omega
        go_roundw
        case rel => exact ⟨q + 1, q + 1, A4, c4, t4, Nat.le_refl _, by omega, rfl, rfl, rfl, hl4, Lib.hid (.inr ⟨HE.out, by rw [HT4.out, HM.out]; exact HT3.out⟩), HO4, HB5⟩
        case measure => simp [intOf]; omega
      · have hf2 : f = q := by omega
        rw [if_pos ((mid_nil hqs hfq).2 hf2), List.append_nil] at HT2
        have HT3 := Lib.hid HT2
        have HE := Lib.hid (show q + 1 = s.size + 1 by omega)
        have hgt : ¬ ((f : Int) < (q : Int)) := by omega
        clear HT1 HT2 e hf2
        go_wp2_with fail
        go_roundw
        case rel => exact ⟨q + 1, q + 1, A, c, ts, Nat.le_refl _, by omega, rfl, rfl, rfl, by omega, Lib.hid (.inr ⟨HE.out, HT3.out⟩), HO, HB⟩
        case measure => simp [intOf]; omega
    have hb8 := s[q].toNat_lt
    have hbl := rblank_any s[q].toNat wr hb8
    have hqb : ((q : Int) == (s.size : Int)) = false := by rw [beq_eq_false_iff_ne]; omega
    have HT2 := HT1.out
    rw [wordsA_go hlt] at HT2
    cases hv : blankN s[q].toNat
    · rw [hv] at hbl
      rw [hv, if_neg (by decide), ← mid_more hfq hlt] at HT2
      have HT3 := Lib.hid HT2
      clear HT1 HT2 hv
      go_wp2_with (first | (go_at_call 33; refine hbl.mono ?_; rintro e w' ⟨rfl, rfl⟩))
      go_roundw
      case rel => exact ⟨f, q + 1, A, c, ts, by omega, by omega, rfl, rfl, rfl, by omega, Lib.hid (.inl ⟨hlt, HT3.out⟩), HO, HB⟩
      case measure => simp [intOf]; omega
    · rw [hv] at hbl
      rw [hv, if_pos rfl] at HT2
      by_cases hf : f < q
      · have hne : midL s f q ≠ [] := fun h => by have := (mid_nil hqs hfq).1 h; omega
        rw [if_neg hne] at HT2
        have HT3 := Lib.hid HT2
        have HR1 := Lib.hid (rd_oneS wr (s.extract f q))
        have hba : Below wr.heap.size wr (wr.alloc (.cells #[.string (s.extract f q)] 9)) := (Below.refl _ _).alloc (Nat.le_refl _) _
        have HO2 := Lib.hid (HO.out.below hba)
        have HB2 := Lib.hid (HB.out.trans (hba.mono HB.out.size))
        clear HT1 HT2 hba hne hv
        go_upto_region 7 with (first | (go_at_call 33; refine hbl.mono ?_; rintro e w' ⟨rfl, rfl⟩))
        clear hbl
        go_wp2_with (at_builtin; refine wpList_append_s (base := w.heap.size) (v := .slice A ts.length c) (xs := ts) (news := [sb (s.extract f q)]) rfl _ _ rfl rfl rfl HO2.out HR1.out (fun h => by cases h) (by omega) (by simp) (by rw [World.size_alloc]; omega) ?_; intro A4 t4 c4 w4 HT4 HO4 HB4)
        have HB5 := Lib.hid (HB2.out.trans HB4.out.1)
        have hl4 : t4.length ≤ q + 1 := by rw [HT4.out, List.length_append]; simp; omega
        go_roundw
        case rel => exact ⟨q + 1, q + 1, A4, c4, t4, Nat.le_refl _, by omega, rfl, rfl, rfl, hl4, Lib.hid (.inl ⟨hlt, by rw [HT4.out, HM.out, mid_same, List.append_assoc]; exact HT3.out⟩), HO4, HB5⟩
        case measure => simp [intOf]; omega
      · have hf2 : f = q := by omega
        rw [if_pos ((mid_nil hqs hfq).2 hf2)] at HT2
        have HT3 := Lib.hid HT2
        have hgt : ¬ ((f : Int) < (q : Int)) := by omega
        clear HT1 HT2 hv hf2
        go_wp2_with (first | (go_at_call 33; refine hbl.mono ?_; rintro e w' ⟨rfl, rfl⟩))
        go_roundw
        case rel => exact ⟨q + 1, q + 1, A, c, ts, Nat.le_refl _, by omega, rfl, rfl, rfl, by omega, Lib.hid (.inl ⟨hlt, by rw [mid_same]; exact HT3.out⟩), HO, HB⟩
        case measure => simp [intOf]; omega
end Go.Proofs.YtponopcnndkalaaGreatDoor.Fl
