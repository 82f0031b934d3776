/-
  How deep a method is, and how many nodes it has: the program's Depth and Count.
-/
import Derived.Test.YtfcceojfcmgmlaaGreatDoorTs5
namespace Go.Proofs.YtfcceojfcmgmlaaGreatDoor.Fl
open Go.RowKit Go.Shelf

theorem depL_snoc (x : Nd) : ∀ l : List Nd, depL (l ++ [x]) = max (depL l) (depN x)
  | [] => by show max (depN x) 0 = max 0 (depN x); omega
  | y :: l => by rw [List.cons_append, depL, depL, depL_snoc x l]; omega
theorem depL_take {l : List Nd} {i : Nat} (h : i < l.length) : depL (l.take (i + 1)) = max (depL (l.take i)) (1 + depL l[i].kids) := by
  rw [List.take_succ_eq_append_getElem h, depL_snoc, depN_eq]
mutual
theorem depN_cnt : ∀ x : Nd, depN x ≤ cntN x
  | .mk k n u ks ns a => by have := depL_cnt ks; rw [depN, cntN]; omega
theorem depL_cnt : ∀ l : List Nd, depL l ≤ cntL l
  | [] => Nat.le_refl _
  | x :: l => by have := depN_cnt x; have := depL_cnt l; rw [depL, cntL]; omega
end
set_option maxRecDepth 100000 in
set_option maxHeartbeats 8000000 in
theorem depth_any (k : Nat) : ∀ (xs : List Nd) (A : Option Addr) (c B : Nat) (w : World), cntL xs ≤ k → cntL xs ≤ 10000000 → NdsAt w (Lo B) A xs → B ≤ w.heap.size → xs.length ≤ c → c ≤ 9223372036854775807 →
    Calls Tryz.prog 33 #[.slice A xs.length c] w fun e w' => e = .returned (.int .i64 (depL xs : Int)) ∧ Below w.heap.size w w' := by
  induction k using Nat.strongRecOn with
  | _ k ih =>
    intro xs A c B w hk hs h hB hc hcc
    have H1 := Lib.hid h
    clear h
    have hxl := cnt_len xs
    go_enter Tryz.func33, Tryz.ntmps33
    go_wp2_with fail
    go_loopw [3, 7] (fun u v wr => ∃ i : Nat, i ≤ xs.length ∧ u = .int .i64 (depL (xs.take i) : Int) ∧ v = .int .i64 (i : Int) ∧ Hid (Below w.heap.size w wr)) (fun _ v _ => xs.length - (intOf v).toNat)
    case atStart => exact ⟨0, Nat.zero_le _, rfl, rfl, Lib.hid (Below.refl _ _)⟩
    case round =>
      obtain ⟨i, hi, rfl, rfl, HO⟩ := hrel
      by_cases hlt : i < xs.length
      case neg =>
        have hq : ¬ ((i : Int) < (xs.length : Int)) := by omega
        rw [List.take_of_length_le (by omega)]
        go_wp2_with fail
        go_ret
        exact ⟨rfl, HO.out⟩
      have hq : (i : Int) < (xs.length : Int) := by omega
      have hN1 := (H1.out.below (HO.out.mono hB) (Nat.le_refl _)).at_ hlt
      obtain ⟨b, o, rfl, hb, Ak, ck, An, cn, d0, d1, d2, d3, d4, d5, g1, g2, g3, g4, g5, g6, _, _⟩ := hN1
      have hb : b < B := hb
      have hbw : b < wr.heap.size := Nat.lt_of_lt_of_le hb (Nat.le_trans hB HO.out.size)
      have hck := cnt_kid hlt
      have hdt := Lib.hid (depL_take hlt)
      have hdk := depL_cnt xs[i].kids
      have hrc := ih (cntL xs[i].kids) (by omega) xs[i].kids Ak ck B wr (Nat.le_refl _) (by omega) g6 (Nat.le_trans hB HO.out.size) g1 g3
      have hd9 : depL (xs.take i) ≤ 10000000 := by have := depL_cnt (xs.take i); have := cntL_le xs i; omega
      generalize xs[i] = x at *
      obtain ⟨p, hp⟩ : ∃ p, depL (xs.take i) = p := ⟨_, rfl⟩
      obtain ⟨q, hq2⟩ : ∃ q, depL x.kids = q := ⟨_, rfl⟩
      rw [hp] at hd9 hdt
      rw [hq2] at hdk hdt hrc
      rw [hp]
      clear ih g5 g6 hp hq2
      by_cases hpq : p ≤ 1 + q
      · have hpi : (p : Int) ≤ 1 + (q : Int) := by omega
        go_wp2_with (go_at_call 33; refine hrc.mono ?_; rintro e w2 ⟨rfl, hb2⟩; clear hrc; have HB2 := Lib.hid hb2; clear hb2)
        go_roundw
        case rel => exact ⟨i + 1, by omega, by rw [hdt.out]; simp; omega, by simp, Lib.hid (HO.out.trans (HB2.out.mono HO.out.size))⟩
        case measure => simp [intOf]; omega
      · have hpi : ¬ (p : Int) ≤ 1 + (q : Int) := by omega
        go_wp2_with (go_at_call 33; refine hrc.mono ?_; rintro e w2 ⟨rfl, hb2⟩; clear hrc; have HB2 := Lib.hid hb2; clear hb2)
        go_roundw
        case rel => exact ⟨i + 1, by omega, by rw [hdt.out]; simp; omega, by simp, Lib.hid (HO.out.trans (HB2.out.mono HO.out.size))⟩
        case measure => simp [intOf]; omega
set_option maxRecDepth 100000 in
set_option maxHeartbeats 8000000 in
theorem depthM_any (m : Me) (v : Value) (B : Nat) (w : World) (h : MeAt w (Lo B) v m) (hB : B ≤ w.heap.size) (hs : cntL m.bd ≤ 10000000) :
    Calls Tryz.prog 12 #[v] w fun e w' => e = .returned (.int .i64 (depL m.bd : Int)) ∧ Below w.heap.size w w' := by
  obtain ⟨Ap, cp, At, ct, Ab, cb, rfl, h1, h2, h3, h4, h5, h6, s1, s2, s3, n1, n2, n3⟩ := h.ex
  clear h s1 s2 n1 n2 n3
  obtain ⟨W1, hW1⟩ : ∃ W, w.alloc (.cells #[.string (mkB m.nm), .slice Ap m.ps.length cp, .slice At m.ts.length ct, .int .i64 m.pr, .slice Ab m.bd.length cb, .int .i64 m.at_] 30) = W := ⟨_, rfl⟩
  obtain ⟨X, hX⟩ : ∃ X, w.heap.size = X := ⟨_, rfl⟩
  have hb1 : Below w.heap.size w W1 := by rw [← hW1]; exact (Below.refl _ _).alloc (Nat.le_refl _) _
  have hx1 : W1.heap[X]? = some (.cells #[.string (mkB m.nm), .slice Ap m.ps.length cp, .slice At m.ts.length ct, .int .i64 m.pr, .slice Ab m.bd.length cb, .int .i64 m.at_] 30 (0, 0)) := by
    rw [← hW1, ← hX]; exact heap_alloc_new w _
  have hwk := depth_any (cntL m.bd) m.bd Ab cb B W1 (Nat.le_refl _) hs (s3.below (hb1.mono hB) (Nat.le_refl _)) (Nat.le_trans hB hb1.size) h5 h6
  have HB1 := Lib.hid hb1
  go_enter Tryz.func12, Tryz.ntmps12
  go_upto_region 1 with fail
  try simp only [hW1, hX]
  clear hW1 hX hb1 s3
  have f1 := cells6T hx1
  have l1 := lt_of_blk hx1
  go_wp2_with (go_at_call 33; refine hwk.mono ?_; rintro e w3 ⟨rfl, hb3⟩; clear hwk; have HB3 := Lib.hid hb3; clear hb3)
  go_ret
  exact ⟨rfl, HB1.out.trans (HB3.out.mono HB1.out.size)⟩
/-! ### Count -/
set_option maxRecDepth 100000 in
theorem tick_any (v0 v1 v2 v3 v4 v5 : Value) (g n : Nat) (w : World) (h : w.heap[g]? = some (.cells #[.int .i64 (n : Int)] 3 (0, 0))) (hn : n ≤ 10000000) :
    Calls Tryz.prog 34 #[.agg #[v0, v1, v2, v3, v4, v5], .pointer (some ⟨g, 0, none⟩)] w fun e w' => e = .returned (.bool true) ∧ w'.heap[g]? = some (.cells #[.int .i64 ((n + 1 : Nat) : Int)] 3 (0, 0)) ∧ OvG g w w' := by
  obtain ⟨W1, hW1⟩ : ∃ W1, w.alloc (.cells #[v0, v1, v2, v3, v4, v5] 47) = W1 := ⟨_, rfl⟩
  have hb1 : Below w.heap.size w W1 := by rw [← hW1]; exact (Below.refl _ _).alloc (Nat.le_refl _) _
  have h1 := (hb1.block g (lt_of_blk h)).trans h
  have ho := Lib.hid (OvG.of_below (R := g) hb1)
  go_enter Tryz.func34, Tryz.ntmps34
  go_upto_region 1 with fail
  try simp only [hW1]
  clear hW1 hb1 h
  have f1 := cells1T h1
  have l1 := lt_of_blk h1
  have en : ((n + 1 : Nat) : Int) = (n : Int) + 1 := by omega
  have h2 := Lib.hid (heap_setCell_same W1 g 0 _ _ (.int .i64 ((n : Int) + 1)) h1)
  have ho2 := Lib.hid (ho.out.trans (OvG.set W1 0 (.int .i64 ((n : Int) + 1))))
  have EN := Lib.hid en
  clear en
  go_wp2_with fail
  go_ret
  exact ⟨rfl, by rw [EN.out]; exact h2.out, ho2.out⟩
set_option maxRecDepth 100000 in
set_option maxHeartbeats 8000000 in
theorem walkC_any (k : Nat) : ∀ (xs : List Nd) (A : Option Addr) (c g n : Nat) (w : World), cntL xs ≤ k → NdsAt w (Lo g) A xs → xs.length ≤ c → c ≤ 9223372036854775807 → w.heap[g]? = some (.cells #[.int .i64 (n : Int)] 3 (0, 0)) → n + cntL xs ≤ 10000000 →
    Calls Tryz.prog 48 #[.slice A xs.length c, .func (.func 34) #[] #[.pointer (some ⟨g, 0, none⟩)]] w
      fun e w' => e = .returned (.bool true) ∧ w'.heap[g]? = some (.cells #[.int .i64 ((n + cntL xs : Nat) : Int)] 3 (0, 0)) ∧ OvG g w w' := by
  induction k using Nat.strongRecOn with
  | _ k ih =>
    intro xs A c g n w hk h hc hcc hg hn
    have H1 := Lib.hid h
    have HG := Lib.hid hg
    have hgw := lt_of_blk hg
    clear h hg
    go_enter Tryz.func48, Tryz.ntmps48
    go_wp2_with fail
    go_loopw [9] (fun v wr => ∃ i : Nat, i ≤ xs.length ∧ v = .int .i64 (i : Int) ∧ Hid (wr.heap[g]? = some (.cells #[.int .i64 ((n + cntL (xs.take i) : Nat) : Int)] 3 (0, 0))) ∧ Hid (OvG g w wr)) (fun v _ => xs.length - (intOf v).toNat)
    case atStart => exact ⟨0, Nat.zero_le _, rfl, by simpa [cntL] using HG, Lib.hid (OvG.refl _ _)⟩
    case round =>
      obtain ⟨i, hi, rfl, HW, HO⟩ := hrel
      by_cases hlt : i < xs.length
      case neg =>
        have hq : ¬ ((i : Int) < (xs.length : Int)) := by omega
        have HW2 := Lib.hid (show wr.heap[g]? = some (.cells #[.int .i64 ((n + cntL xs : Nat) : Int)] 3 (0, 0)) by have := HW.out; rwa [List.take_of_length_le (by omega)] at this)
        go_wp2_with fail
        go_ret
        exact ⟨rfl, HW2.out, HO.out⟩
      have hq : (i : Int) < (xs.length : Int) := by omega
      have hbP : Below g w wr := HO.out.below (Nat.le_of_lt hgw) (Nat.le_refl _)
      have hN1 := (H1.out.below hbP (Nat.le_refl _)).at_ hlt
      obtain ⟨b, o, rfl, hb, Ak, ck, An, cn, d0, d1, d2, d3, d4, d5, g1, g2, g3, g4, g5, g6, _, _⟩ := hN1
      have hb : b < g := hb
      have hgr := lt_of_blk HW.out
      have hbw : b < wr.heap.size := Nat.lt_trans hb hgr
      have hck := cnt_kid hlt
      have hct := cntL_take hlt
      have hle := cntL_le xs (i + 1)
      obtain ⟨m, hm⟩ : ∃ m, n + cntL (xs.take i) = m := ⟨_, rfl⟩
      have HT := Lib.hid (show n + cntL (xs.take (i + 1)) = m + 1 + cntL xs[i].kids by omega)
      have hmk : m + 1 + cntL xs[i].kids ≤ 10000000 := by omega
      rw [hm] at HW
      obtain ⟨W1, hW1⟩ : ∃ W1, wr.alloc (.cells #[.int .i64 xs[i].kd, .string (mkB xs[i].nm), .int .i64 xs[i].nu, .slice Ak xs[i].kids.length ck, .slice An xs[i].ns.length cn, .int .i64 xs[i].at_] 47) = W1 := ⟨_, rfl⟩
      have hb1 : Below wr.heap.size wr W1 := by rw [← hW1]; exact (Below.refl _ _).alloc (Nat.le_refl _) _
      obtain ⟨X, hX⟩ : ∃ X, wr.heap.size = X := ⟨_, rfl⟩
      have hx1 : W1.heap[X]? = some (.cells #[.int .i64 xs[i].kd, .string (mkB xs[i].nm), .int .i64 xs[i].nu, .slice Ak xs[i].kids.length ck, .slice An xs[i].ns.length cn, .int .i64 xs[i].at_] 47 (0, 0)) := by
        rw [← hW1, ← hX]; exact heap_alloc_new wr _
      have hsee := tick_any (.int .i64 xs[i].kd) (.string (mkB xs[i].nm)) (.int .i64 xs[i].nu) (.slice Ak xs[i].kids.length ck) (.slice An xs[i].ns.length cn) (.int .i64 xs[i].at_) g m W1 ((hb1.block g hgr).trans HW.out) (by omega)
      have HRC : Hid (∀ w', OvG g W1 w' → w'.heap[g]? = some (.cells #[.int .i64 ((m + 1 : Nat) : Int)] 3 (0, 0)) → Calls Tryz.prog 48 #[.slice Ak xs[i].kids.length ck, .func (.func 34) #[] #[.pointer (some ⟨g, 0, none⟩)]] w' fun e w2 => e = .returned (.bool true) ∧ w2.heap[g]? = some (.cells #[.int .i64 ((m + 1 + cntL xs[i].kids : Nat) : Int)] 3 (0, 0)) ∧ OvG g w' w2) :=
        Lib.hid (fun w' ho hw2 => ih (cntL xs[i].kids) (by omega) xs[i].kids Ak ck g (m + 1) w' (Nat.le_refl _) (g6.below ((hb1.mono (Nat.le_of_lt hgr)).trans (ho.below (Nat.le_trans (Nat.le_of_lt hgr) hb1.size) (Nat.le_refl _))) (Nat.le_refl _)) g1 g3 hw2 hmk)
      clear ih g5 g6 hck hct hle hbP hm
      generalize xs[i] = x at *
      have hXg := Lib.hid (show X ≠ g by omega)
      go_upto_region 4 with fail
      try simp only [hW1, hX]
      have HO1 := Lib.hid (HO.out.trans (OvG.of_below hb1))
      clear hW1 hX hb1 d0 d1 d2 d3 d4 d5 hbw
      have f1 := cells6T hx1
      have l1 := lt_of_blk hx1
      go_wp2_with (first
        | (go_at_call 34; refine hsee.mono ?_; rintro e w2 ⟨rfl, hw2, ho2⟩; clear hsee
           have hx2 := (ho2.block X l1 hXg.out).trans hx1
           have f2 := cells6T hx2
           have l2 := lt_of_blk hx2
           have hwk := HRC.out w2 ho2 hw2
           have HO2 := Lib.hid ho2
           clear hw2 ho2 f1 l1 hx2)
        | (go_at_call 48; refine hwk.mono ?_; rintro e w3 ⟨rfl, hw3, ho3⟩; clear hwk; have HW3 := Lib.hid hw3; have HO3 := Lib.hid ho3; clear hw3 ho3))
      go_roundw
      case rel => exact ⟨i + 1, by omega, by simp, Lib.hid (by rw [HT.out]; exact HW3.out), Lib.hid (HO1.out.trans (HO2.out.trans HO3.out))⟩
      case measure => simp [intOf]; omega
end Go.Proofs.YtfcceojfcmgmlaaGreatDoor.Fl

/-
  How many nodes a method has: the program's Count.
-/
namespace Go.Proofs.YtfcceojfcmgmlaaGreatDoor.Fl
open Go.RowKit Go.Shelf

set_option maxRecDepth 100000 in
set_option maxHeartbeats 8000000 in
theorem walkMC_any (m : Me) (v : Value) (g n : Nat) (w : World) (h : MeAt w (Lo g) v m) (hg : w.heap[g]? = some (.cells #[.int .i64 (n : Int)] 3 (0, 0))) (hn : n + cntL m.bd ≤ 10000000) :
    Calls Tryz.prog 21 #[v, .func (.func 34) #[] #[.pointer (some ⟨g, 0, none⟩)]] w fun e w' => e = .returned (.bool true) ∧ w'.heap[g]? = some (.cells #[.int .i64 ((n + cntL m.bd : Nat) : Int)] 3 (0, 0)) ∧ OvG g w w' := by
  obtain ⟨Ap, cp, At, ct, Ab, cb, rfl, h1, h2, h3, h4, h5, h6, s1, s2, s3, n1, n2, n3⟩ := h.ex
  clear h s1 s2 n1 n2 n3
  obtain ⟨W1, hW1⟩ : ∃ W, w.alloc (.cells #[.string (mkB m.nm), .slice Ap m.ps.length cp, .slice At m.ts.length ct, .int .i64 m.pr, .slice Ab m.bd.length cb, .int .i64 m.at_] 30) = W := ⟨_, rfl⟩
  obtain ⟨X, hX⟩ : ∃ X, w.heap.size = X := ⟨_, rfl⟩
  have hb1 : Below w.heap.size w W1 := by rw [← hW1]; exact (Below.refl _ _).alloc (Nat.le_refl _) _
  have hx1 : W1.heap[X]? = some (.cells #[.string (mkB m.nm), .slice Ap m.ps.length cp, .slice At m.ts.length ct, .int .i64 m.pr, .slice Ab m.bd.length cb, .int .i64 m.at_] 30 (0, 0)) := by
    rw [← hW1, ← hX]; exact heap_alloc_new w _
  have hwk := walkC_any (cntL m.bd) m.bd Ab cb g n W1 (Nat.le_refl _) (s3.below (hb1.mono (Nat.le_of_lt (lt_of_blk hg))) (Nat.le_refl _)) h5 h6 ((hb1.block g (lt_of_blk hg)).trans hg) hn
  have HO1 := Lib.hid (OvG.of_below (R := g) hb1)
  go_enter Tryz.func21, Tryz.ntmps21
  go_upto_region 1 with fail
  try simp only [hW1, hX]
  clear hW1 hX hb1 s3 hg
  have f1 := cells6T hx1
  have l1 := lt_of_blk hx1
  have hn : ∀ (w' : World), (binOp .eql 50 (.func (.func 34) #[] #[.pointer (some ⟨g, 0, none⟩)]) .nilFunc).run Tryz.prog w' = .ok (.bool false) w' := by
    intro w'
    obtain ⟨d, hd⟩ : ∃ d, Op.maxDepth = d + 1 := ⟨_, rfl⟩
    simp only [binOp, Op.equal, hd]
    unfold Op.equalIn
    simp [go_sem]
  go_wp2_with (go_at_call 48; refine hwk.mono ?_; rintro e w3 ⟨rfl, hw3, ho3⟩; clear hwk; have HW3 := Lib.hid hw3; have HO3 := Lib.hid ho3; clear hw3 ho3)
  go_ret
  exact ⟨rfl, HW3.out, HO1.out.trans HO3.out⟩
set_option maxRecDepth 100000 in
set_option maxHeartbeats 8000000 in
theorem countM_any (m : Me) (v : Value) (B : Nat) (w : World) (h : MeAt w (Lo B) v m) (hB : B ≤ w.heap.size) (hn : cntL m.bd ≤ 10000000) :
    Calls Tryz.prog 14 #[v] w fun e w' => e = .returned (.int .i64 (cntL m.bd : Int)) ∧ Below w.heap.size w w' := by
  have hm := h
  obtain ⟨Ap, cp, At, ct, Ab, cb, rfl, -⟩ := h.ex
  obtain ⟨W1, hW1⟩ : ∃ W, (w.alloc (.cells #[.string (mkB m.nm), .slice Ap m.ps.length cp, .slice At m.ts.length ct, .int .i64 m.pr, .slice Ab m.bd.length cb, .int .i64 m.at_] 30)).alloc (.cells #[.int .i64 0] 3) = W := ⟨_, rfl⟩
  obtain ⟨q1, q2, hb⟩ := boxes2T w _ _ W1 hW1
  obtain ⟨X, hX⟩ : ∃ X, w.heap.size = X := ⟨_, rfl⟩
  have hwk := walkMC_any m _ (X + 1) 0 W1 (hm.below (hb.mono hB) (show B ≤ X + 1 by omega)) (by rw [← hX]; exact q2) (by omega)
  rw [Nat.zero_add] at hwk
  have HB1 := Lib.hid hb
  rw [hX] at q1 q2
  have HX := Lib.hid hX
  have HW := Lib.hid hW1
  clear hW1 hX hb hm h q2
  go_enter Tryz.func14, Tryz.ntmps14
  go_upto_region 2 with fail
  have hX := HX.out
  have hW1 := HW.out
  try simp only [hW1]
  try simp only [hX]
  clear hW1 hX
  have f1 := cells6T q1
  have l1 := lt_of_blk q1
  go_wp2_with (go_at_call 21; refine hwk.mono ?_; rintro e w3 ⟨rfl, hw3, ho3⟩; clear hwk; have f3 := cells1T hw3; have l3 := lt_of_blk hw3; have HO3 := Lib.hid ho3; clear hw3 ho3)
  go_ret
  exact ⟨rfl, HB1.out.trans (HO3.out.below HB1.out.size (by rw [HX.out]; omega))⟩
end Go.Proofs.YtfcceojfcmgmlaaGreatDoor.Fl

/-
  What a method may be: the program's Check, as a function.
-/
namespace Go.Proofs.YtfcceojfcmgmlaaGreatDoor.Fl
open Go.RowKit Go.Shelf

/-- which parts a node has -/
def hasI (x : Nd) : Nat := ((if x.nm = [] then 0 else 1) + (if x.nu = 0 then 0 else 2)) + ((if x.kids = [] then 0 else 4) + (if x.ns = [] then 0 else 8))
/-- which parts a kind uses -/
def usedI (k : Int) : Nat :=
  if k = 1 then 2 else if k = 2 ∨ k = 3 ∨ k = 5 then 1 else if k = 4 ∨ k = 8 ∨ k = 10 then 4 else if k = 6 ∨ k = 7 then 5 else if k = 9 then 14 else 0
def bareB (x : Nd) (k : Int) : Bool := x.kd == k && (hasI x &&& (15 - usedI k)) == 0
def nameB (s : List UInt8) : Bool := arityL (mkB s) == 0
def litB (x : Nd) : Bool := bareB x 1 || (bareB x 2 || bareB x 3)
/-- a Send's form, but for what its kids are -/
def sendB (x : Nd) : Bool := bareB x 7 && (decide (0 ≤ arityL (mkB x.nm)) && ((x.kids.length : Int) == arityL (mkB x.nm) + 1))
def blockB (x : Nd) : Bool := bareB x 9 && (decide (0 ≤ x.nu) && (decide (x.nu ≤ (x.ns.length : Int)) && x.ns.all nameB))
mutual
def elN : Nd → Bool
  | .mk kd nm nu ks ns a =>
    if kd = 4 then bareB (.mk kd nm nu ks ns a) 4 && elL ks
    else if kd = 5 then bareB (.mk kd nm nu ks ns a) 5 && (nm == [116, 114, 117, 101] || (nm == [102, 97, 108, 115, 101] || nm == [110, 105, 108]))
    else litB (.mk kd nm nu ks ns a)
def elL : List Nd → Bool
  | [] => true
  | x :: l => elN x && elL l
end
mutual
def valN : Nd → Bool
  | .mk kd nm nu ks ns a =>
    if kd = 4 then bareB (.mk kd nm nu ks ns a) 4 && elL ks
    else if kd = 5 then bareB (.mk kd nm nu ks ns a) 5 && nameB nm
    else if kd = 6 then bareB (.mk kd nm nu ks ns a) 6 && (nameB nm && ((ks.length == 1) && valL ks))
    else if kd = 7 then sendB (.mk kd nm nu ks ns a) && valL ks
    else if kd = 8 then bareB (.mk kd nm nu ks ns a) 8 && (decide (1 < ks.length) && casL ks)
    else if kd = 9 then blockB (.mk kd nm nu ks ns a) && stL ks
    else litB (.mk kd nm nu ks ns a)
def valL : List Nd → Bool
  | [] => true
  | x :: l => valN x && valL l
def sendN : Nd → Bool
  | .mk kd nm nu ks ns a => sendB (.mk kd nm nu ks ns a) && valL ks
def casL : List Nd → Bool
  | [] => false
  | x :: l => sendN x && furL l
def furN : Nd → Bool
  | .mk kd nm nu ks ns a => sendB (.mk kd nm nu ks ns a) && holL ks
def furL : List Nd → Bool
  | [] => true
  | x :: l => furN x && furL l
def holL : List Nd → Bool
  | [] => false
  | x :: l => bareB x 11 && valL l
def stL : List Nd → Bool
  | [] => true
  | x :: l => (valN x && stL l) || (l.isEmpty && retN x)
def retN : Nd → Bool
  | .mk kd nm nu ks ns a => bareB (.mk kd nm nu ks ns a) 10 && ((ks.length == 1) && valL ks)
end
theorem elN_eq (x : Nd) : elN x = if x.kd = 4 then bareB x 4 && elL x.kids else if x.kd = 5 then bareB x 5 && (x.nm == [116, 114, 117, 101] || (x.nm == [102, 97, 108, 115, 101] || x.nm == [110, 105, 108])) else litB x := by cases x; rfl
theorem valN_eq (x : Nd) : valN x = if x.kd = 4 then bareB x 4 && elL x.kids
    else if x.kd = 5 then bareB x 5 && nameB x.nm
    else if x.kd = 6 then bareB x 6 && (nameB x.nm && ((x.kids.length == 1) && valL x.kids))
    else if x.kd = 7 then sendB x && valL x.kids
    else if x.kd = 8 then bareB x 8 && (decide (1 < x.kids.length) && casL x.kids)
    else if x.kd = 9 then blockB x && stL x.kids
    else litB x := by cases x; rfl
theorem sendN_eq (x : Nd) : sendN x = (sendB x && valL x.kids) := by cases x; rfl
theorem furN_eq (x : Nd) : furN x = (sendB x && holL x.kids) := by cases x; rfl
theorem retN_eq (x : Nd) : retN x = (bareB x 10 && ((x.kids.length == 1) && valL x.kids)) := by cases x; rfl
theorem valL_all : ∀ l : List Nd, valL l = l.all valN
  | [] => rfl
  | x :: l => by rw [valL, valL_all l, List.all_cons]
theorem elL_all : ∀ l : List Nd, elL l = l.all elN
  | [] => rfl
  | x :: l => by rw [elL, elL_all l, List.all_cons]
theorem furL_all : ∀ l : List Nd, furL l = l.all furN
  | [] => rfl
  | x :: l => by rw [furL, furL_all l, List.all_cons]
theorem all_take {α} (f : α → Bool) {l : List α} {i : Nat} (h : i < l.length) : (l.take (i + 1)).all f = ((l.take i).all f && f l[i]) := by
  rw [List.take_succ_eq_append_getElem h, List.all_append, List.all_cons, List.all_nil, Bool.and_true]
theorem all_no {α} (f : α → Bool) {l : List α} {i : Nat} (h : i < l.length) (hf : f l[i] = false) : l.all f = false := by
  rw [List.all_eq_false]
  exact ⟨l[i], List.getElem_mem h, by rw [hf]; decide⟩
theorem stL_snoc (x : Nd) : ∀ l : List Nd, stL (l ++ [x]) = (l.all valN && (valN x || retN x))
  | [] => by simp [stL]
  | y :: l => by
    rw [List.cons_append, stL, stL_snoc x l, List.all_cons]
    simp [Bool.and_assoc]
theorem stL_last {l : List Nd} (h : 0 < l.length) : stL l = ((l.take (l.length - 1)).all valN && (valN l[l.length - 1] || retN l[l.length - 1])) := by
  have e : l = l.take (l.length - 1) ++ [l[l.length - 1]] := by
    rw [← List.take_succ_eq_append_getElem (by omega), show l.length - 1 + 1 = l.length by omega, List.take_length]
  conv => lhs; rw [e]
  rw [stL_snoc]
/-- names of a size that can be asked for -/
def NkN (y : Nd) : Prop := y.nm.length ≤ 16777216 ∧ y.ns.length ≤ 100000000 ∧ ∀ s ∈ y.ns, s.length ≤ 16777216
def NkL (l : List Nd) : Prop := ∀ y ∈ allL l, NkN y
theorem allN_in (x : Nd) : ∀ {l : List Nd}, x ∈ l → ∀ y ∈ allN x, y ∈ allL l
  | z :: l, h, y, hy => by
    rw [allL, List.mem_append]
    rcases List.mem_cons.1 h with rfl | h
    · exact .inl hy
    · exact .inr (allN_in x h y hy)
theorem NkL.at_ {l : List Nd} (h : NkL l) {x : Nd} (hx : x ∈ l) : NkN x ∧ NkL x.kids :=
  ⟨h x (allN_in x hx x (by rw [allN_eq]; simp)), fun y hy => h y (allN_in x hx y (by rw [allN_eq]; simp [hy]))⟩
theorem NkL.take {l : List Nd} (h : NkL l) (i : Nat) : NkL (l.take i) := fun y hy => h y (by
  have e : allL l = allL (l.take i) ++ allL (l.drop i) := by rw [← allL_app, List.take_append_drop]
  rw [e]; simp [hy])
theorem NkL.drop {l : List Nd} (h : NkL l) (i : Nat) : NkL (l.drop i) := fun y hy => h y (by
  have e : allL l = allL (l.take i) ++ allL (l.drop i) := by rw [← allL_app, List.take_append_drop]
  rw [e]; simp [hy])
theorem cntL_takes (l : List Nd) (i : Nat) : cntL (l.take i) ≤ cntL l := by
  have e : cntL l = cntL (l.take i) + cntL (l.drop i) := by rw [← cntL_app, List.take_append_drop]
  omega
theorem cntL_drops (l : List Nd) (i : Nat) : cntL (l.drop i) ≤ cntL l := by
  have e : cntL l = cntL (l.take i) + cntL (l.drop i) := by rw [← cntL_app, List.take_append_drop]
  omega
/-! ### a node as a value -/
/-- a node that is handed on -/
def NvAt (w : World) (P : Nat → Prop) (v : Value) (x : Nd) : Prop :=
  ∃ (Ak : Option Addr) (ck : Nat) (An : Option Addr) (cn : Nat), v = .agg #[.int .i64 x.kd, .string (mkB x.nm), .int .i64 x.nu, .slice Ak x.kids.length ck, .slice An x.ns.length cn, .int .i64 x.at_] ∧
    x.kids.length ≤ ck ∧ x.ns.length ≤ cn ∧ ck ≤ 9223372036854775807 ∧ cn ≤ 9223372036854775807 ∧ SrAt w P An x.ns ∧ NdsAt w P Ak x.kids ∧ (Ak = none → x.kids = []) ∧ (An = none → x.ns = [])
theorem NvAt.below {w w' : World} {B B' : Nat} {v : Value} {x : Nd} (h : NvAt w (Lo B) v x) (hb : Below B w w') (hB : B ≤ B') : NvAt w' (Lo B') v x := by
  obtain ⟨Ak, ck, An, cn, e, h1, h2, h3, h4, h5, h6, h7, h8⟩ := h
  exact ⟨Ak, ck, An, cn, e, h1, h2, h3, h4, h5.below hb hB, h6.below hb hB, h7, h8⟩
theorem NdsAt.drop {w : World} {P : Nat → Prop} {A : Option Addr} {l : List Nd} (h : NdsAt w P A l) (i : Nat) (hi : i < l.length) :
    ∃ b off, A = some ⟨b, off, none⟩ ∧ P b ∧ NdsAt w P (some ⟨b, off + i * 6, none⟩) (l.drop i) := by
  rcases h with h | ⟨b, off, rfl, hb, hc⟩
  · rw [h] at hi; cases hi
  · refine ⟨b, off, rfl, hb, .inr ⟨b, off + i * 6, rfl, hb, fun j hj => ?_⟩⟩
    have hj2 : i + j < l.length := by rw [List.length_drop] at hj; omega
    have := hc (i + j) hj2
    rw [List.getElem_drop]
    rwa [show off + i * 6 + j * 6 = off + (i + j) * 6 by omega]
theorem NdsAt.take {w : World} {P : Nat → Prop} {A : Option Addr} {l : List Nd} (h : NdsAt w P A l) (i : Nat) : NdsAt w P A (l.take i) := by
  rcases h with h | ⟨b, off, rfl, hb, hc⟩
  · exact .inl (by rw [h, List.take_nil])
  · refine .inr ⟨b, off, rfl, hb, fun j hj => ?_⟩
    have hj2 : j < l.length := by rw [List.length_take] at hj; omega
    rw [List.getElem_take]
    exact hc j hj2
end Go.Proofs.YtfcceojfcmgmlaaGreatDoor.Fl

/-
  A node with nothing that its kind doesn't use; literals.
-/
namespace Go.Proofs.YtfcceojfcmgmlaaGreatDoor.Fl
open Go.RowKit Go.Shelf

set_option maxRecDepth 100000 in
set_option maxHeartbeats 4000000 in
theorem used_any (k : Int) (w : World) : Calls Tryz.prog 120 #[.int .i64 k] w fun e w' => e = .returned (.int .i64 (usedI k : Int)) ∧ w = w' := by
  go_enter Tryz.func120, Tryz.ntmps120
  by_cases k1 : k = 1
  · subst k1
    go_wp2_with fail
    go_ret
    exact ⟨rfl, rfl⟩
  by_cases k2 : k = 2
  · subst k2
    go_wp2_with fail
    go_ret
    exact ⟨rfl, rfl⟩
  by_cases k3 : k = 3
  · subst k3
    go_wp2_with fail
    go_ret
    exact ⟨rfl, rfl⟩
  by_cases k5 : k = 5
  · subst k5
    go_wp2_with fail
    go_ret
    exact ⟨rfl, rfl⟩
  by_cases k4 : k = 4
  · subst k4
    go_wp2_with fail
    go_ret
    exact ⟨rfl, rfl⟩
  by_cases k8 : k = 8
  · subst k8
    go_wp2_with fail
    go_ret
    exact ⟨rfl, rfl⟩
  by_cases k10 : k = 10
  · subst k10
    go_wp2_with fail
    go_ret
    exact ⟨rfl, rfl⟩
  by_cases k6 : k = 6
  · subst k6
    go_wp2_with fail
    go_ret
    exact ⟨rfl, rfl⟩
  by_cases k7 : k = 7
  · subst k7
    go_wp2_with fail
    go_ret
    exact ⟨rfl, rfl⟩
  by_cases k9 : k = 9
  · subst k9
    go_wp2_with fail
    go_ret
    exact ⟨rfl, rfl⟩
  have hu : usedI k = 0 := by unfold usedI; simp [k1, k2, k3, k5, k4, k8, k10, k6, k7, k9]
  rw [hu]
  go_wp2_with fail
  go_ret
  exact ⟨rfl, rfl⟩
theorem bits_fin : ∀ h u : Fin 16, (bits BinOp.andNot IntKind.i64 ((h.1 : Nat) : Int) ((u.1 : Nat) : Int) == 0) = ((h.1 &&& (15 - u.1)) == 0) := of_decide_eq_true (by kernel_rfl)
theorem bits_no (h u : Nat) (hh : h < 16) (hu : u < 16) : (bits BinOp.andNot IntKind.i64 ((h : Nat) : Int) ((u : Nat) : Int) == 0) = ((h &&& (15 - u)) == 0) := bits_fin ⟨h, hh⟩ ⟨u, hu⟩
theorem used_lt (k : Int) : usedI k < 16 := by 
  unfold usedI
  (repeat' split) <;> decide
set_option maxRecDepth 100000 in
set_option maxHeartbeats 16000000 in
theorem bare_any (x : Nd) (k : Int) (Ak : Option Addr) (ck : Nat) (An : Option Addr) (cn : Nat) (w : World) :
    Calls Tryz.prog 97 #[.agg #[.int .i64 x.kd, .string (mkB x.nm), .int .i64 x.nu, .slice Ak x.kids.length ck, .slice An x.ns.length cn, .int .i64 x.at_], .int .i64 k] w fun e w' => e = .returned (.bool (bareB x k)) ∧ Below w.heap.size w w' := by
  obtain ⟨W1, hW1⟩ : ∃ W, w.alloc (.cells #[.int .i64 x.kd, .string (mkB x.nm), .int .i64 x.nu, .slice Ak x.kids.length ck, .slice An x.ns.length cn, .int .i64 x.at_] 47) = W := ⟨_, rfl⟩
  obtain ⟨X, hX⟩ : ∃ X, w.heap.size = X := ⟨_, rfl⟩
  have hb1 : Below w.heap.size w W1 := by rw [← hW1]; exact (Below.refl _ _).alloc (Nat.le_refl _) _
  have hx1 : W1.heap[X]? = some (.cells #[.int .i64 x.kd, .string (mkB x.nm), .int .i64 x.nu, .slice Ak x.kids.length ck, .slice An x.ns.length cn, .int .i64 x.at_] 47 (0, 0)) := by
    rw [← hW1, ← hX]; exact heap_alloc_new w _
  have HB1 := Lib.hid hb1
  have hu := used_any k W1
  obtain ⟨r, hr⟩ : ∃ r, bareB x k = r := ⟨_, rfl⟩
  rw [hr]
  have HR := Lib.hid hr
  unfold bareB hasI at HR
  clear hr
  go_enter Tryz.func97, Tryz.ntmps97
  go_upto_region 1 with fail
  try simp only [hW1, hX]
  clear hW1 hX hb1
  have f1 := cells6T hx1
  have l1 := lt_of_blk hx1
  clear hx1
  have z1 : x.nm ≠ [] → (x.nm == []) = false := fun h => beq_eq_false_iff_ne.2 h
  have z3 : x.kids ≠ [] → (0 : Int) < (x.kids.length : Int) := fun h => by
    have := List.length_pos_iff.2 h; omega
  have z4 : x.ns ≠ [] → (0 : Int) < (x.ns.length : Int) := fun h => by
    have := List.length_pos_iff.2 h; omega
  have HU := Lib.hid hu
  clear hu
  by_cases n5 : x.kd = k
  · by_cases n1 : x.nm = []
    · by_cases n2 : x.nu = 0
      · by_cases n3 : x.kids = []
        · by_cases n4 : x.ns = []
          · rw [n1, n3, n4] at f1
            clear z1 z3 z4
            have HE := Lib.hid (show (bits BinOp.andNot IntKind.i64 ((0 : Nat) : Int) ((usedI k : Nat) : Int) == 0) = r from by rw [← HR.out, bits_no 0 _ (by decide) (used_lt k)]; simp [n1, n2, n3, n4, n5])
            have hu := HU.out
            go_wp2_with (go_at_call 120; refine hu.mono ?_; rintro e w3 ⟨rfl, rfl⟩; clear hu)
            go_ret
            exact ⟨by rw [← HE.out]; rfl, HB1.out⟩
          · rw [n1, n3] at f1
            have y4 := z4 n4
            clear z1 z3 z4
            have HE := Lib.hid (show (bits BinOp.andNot IntKind.i64 ((8 : Nat) : Int) ((usedI k : Nat) : Int) == 0) = r from by rw [← HR.out, bits_no 8 _ (by decide) (used_lt k)]; simp [n1, n2, n3, n4, n5])
            have hu := HU.out
            go_wp2_with (go_at_call 120; refine hu.mono ?_; rintro e w3 ⟨rfl, rfl⟩; clear hu)
            go_ret
            exact ⟨by rw [← HE.out]; rfl, HB1.out⟩
        · by_cases n4 : x.ns = []
          · rw [n1, n4] at f1
            have y3 := z3 n3
            clear z1 z3 z4
            have HE := Lib.hid (show (bits BinOp.andNot IntKind.i64 ((4 : Nat) : Int) ((usedI k : Nat) : Int) == 0) = r from by rw [← HR.out, bits_no 4 _ (by decide) (used_lt k)]; simp [n1, n2, n3, n4, n5])
            have hu := HU.out
            go_wp2_with (go_at_call 120; refine hu.mono ?_; rintro e w3 ⟨rfl, rfl⟩; clear hu)
            go_ret
            exact ⟨by rw [← HE.out]; rfl, HB1.out⟩
          · rw [n1] at f1
            have y3 := z3 n3
            have y4 := z4 n4
            clear z1 z3 z4
            have HE := Lib.hid (show (bits BinOp.andNot IntKind.i64 ((12 : Nat) : Int) ((usedI k : Nat) : Int) == 0) = r from by rw [← HR.out, bits_no 12 _ (by decide) (used_lt k)]; simp [n1, n2, n3, n4, n5])
            have hu := HU.out
            go_wp2_with (go_at_call 120; refine hu.mono ?_; rintro e w3 ⟨rfl, rfl⟩; clear hu)
            go_ret
            exact ⟨by rw [← HE.out]; rfl, HB1.out⟩
      · by_cases n3 : x.kids = []
        · by_cases n4 : x.ns = []
          · rw [n1, n3, n4] at f1
            clear z1 z3 z4
            have HE := Lib.hid (show (bits BinOp.andNot IntKind.i64 ((2 : Nat) : Int) ((usedI k : Nat) : Int) == 0) = r from by rw [← HR.out, bits_no 2 _ (by decide) (used_lt k)]; simp [n1, n2, n3, n4, n5])
            have hu := HU.out
            go_wp2_with (go_at_call 120; refine hu.mono ?_; rintro e w3 ⟨rfl, rfl⟩; clear hu)
            go_ret
            exact ⟨by rw [← HE.out]; rfl, HB1.out⟩
          · rw [n1, n3] at f1
            have y4 := z4 n4
            clear z1 z3 z4
            have HE := Lib.hid (show (bits BinOp.andNot IntKind.i64 ((10 : Nat) : Int) ((usedI k : Nat) : Int) == 0) = r from by rw [← HR.out, bits_no 10 _ (by decide) (used_lt k)]; simp [n1, n2, n3, n4, n5])
            have hu := HU.out
            go_wp2_with (go_at_call 120; refine hu.mono ?_; rintro e w3 ⟨rfl, rfl⟩; clear hu)
            go_ret
            exact ⟨by rw [← HE.out]; rfl, HB1.out⟩
        · by_cases n4 : x.ns = []
          · rw [n1, n4] at f1
            have y3 := z3 n3
            clear z1 z3 z4
            have HE := Lib.hid (show (bits BinOp.andNot IntKind.i64 ((6 : Nat) : Int) ((usedI k : Nat) : Int) == 0) = r from by rw [← HR.out, bits_no 6 _ (by decide) (used_lt k)]; simp [n1, n2, n3, n4, n5])
            have hu := HU.out
            go_wp2_with (go_at_call 120; refine hu.mono ?_; rintro e w3 ⟨rfl, rfl⟩; clear hu)
            go_ret
            exact ⟨by rw [← HE.out]; rfl, HB1.out⟩
          · rw [n1] at f1
            have y3 := z3 n3
            have y4 := z4 n4
            clear z1 z3 z4
            have HE := Lib.hid (show (bits BinOp.andNot IntKind.i64 ((14 : Nat) : Int) ((usedI k : Nat) : Int) == 0) = r from by rw [← HR.out, bits_no 14 _ (by decide) (used_lt k)]; simp [n1, n2, n3, n4, n5])
            have hu := HU.out
            go_wp2_with (go_at_call 120; refine hu.mono ?_; rintro e w3 ⟨rfl, rfl⟩; clear hu)
            go_ret
            exact ⟨by rw [← HE.out]; rfl, HB1.out⟩
    · by_cases n2 : x.nu = 0
      · by_cases n3 : x.kids = []
        · by_cases n4 : x.ns = []
          · rw [n3, n4] at f1
            have y1 := z1 n1
            clear z1 z3 z4
            have HE := Lib.hid (show (bits BinOp.andNot IntKind.i64 ((1 : Nat) : Int) ((usedI k : Nat) : Int) == 0) = r from by rw [← HR.out, bits_no 1 _ (by decide) (used_lt k)]; simp [n1, n2, n3, n4, n5])
            have hu := HU.out
            go_wp2_with (go_at_call 120; refine hu.mono ?_; rintro e w3 ⟨rfl, rfl⟩; clear hu)
            go_ret
            exact ⟨by rw [← HE.out]; rfl, HB1.out⟩
          · rw [n3] at f1
            have y1 := z1 n1
            have y4 := z4 n4
            clear z1 z3 z4
            have HE := Lib.hid (show (bits BinOp.andNot IntKind.i64 ((9 : Nat) : Int) ((usedI k : Nat) : Int) == 0) = r from by rw [← HR.out, bits_no 9 _ (by decide) (used_lt k)]; simp [n1, n2, n3, n4, n5])
            have hu := HU.out
            go_wp2_with (go_at_call 120; refine hu.mono ?_; rintro e w3 ⟨rfl, rfl⟩; clear hu)
            go_ret
            exact ⟨by rw [← HE.out]; rfl, HB1.out⟩
        · by_cases n4 : x.ns = []
          · rw [n4] at f1
            have y1 := z1 n1
            have y3 := z3 n3
            clear z1 z3 z4
            have HE := Lib.hid (show (bits BinOp.andNot IntKind.i64 ((5 : Nat) : Int) ((usedI k : Nat) : Int) == 0) = r from by rw [← HR.out, bits_no 5 _ (by decide) (used_lt k)]; simp [n1, n2, n3, n4, n5])
            have hu := HU.out
            go_wp2_with (go_at_call 120; refine hu.mono ?_; rintro e w3 ⟨rfl, rfl⟩; clear hu)
            go_ret
            exact ⟨by rw [← HE.out]; rfl, HB1.out⟩
          · have y1 := z1 n1
            have y3 := z3 n3
            have y4 := z4 n4
            clear z1 z3 z4
            have HE := Lib.hid (show (bits BinOp.andNot IntKind.i64 ((13 : Nat) : Int) ((usedI k : Nat) : Int) == 0) = r from by rw [← HR.out, bits_no 13 _ (by decide) (used_lt k)]; simp [n1, n2, n3, n4, n5])
            have hu := HU.out
            go_wp2_with (go_at_call 120; refine hu.mono ?_; rintro e w3 ⟨rfl, rfl⟩; clear hu)
            go_ret
            exact ⟨by rw [← HE.out]; rfl, HB1.out⟩
      · by_cases n3 : x.kids = []
        · by_cases n4 : x.ns = []
          · rw [n3, n4] at f1
            have y1 := z1 n1
            clear z1 z3 z4
            have HE := Lib.hid (show (bits BinOp.andNot IntKind.i64 ((3 : Nat) : Int) ((usedI k : Nat) : Int) == 0) = r from by rw [← HR.out, bits_no 3 _ (by decide) (used_lt k)]; simp [n1, n2, n3, n4, n5])
            have hu := HU.out
            go_wp2_with (go_at_call 120; refine hu.mono ?_; rintro e w3 ⟨rfl, rfl⟩; clear hu)
            go_ret
            exact ⟨by rw [← HE.out]; rfl, HB1.out⟩
          · rw [n3] at f1
            have y1 := z1 n1
            have y4 := z4 n4
            clear z1 z3 z4
            have HE := Lib.hid (show (bits BinOp.andNot IntKind.i64 ((11 : Nat) : Int) ((usedI k : Nat) : Int) == 0) = r from by rw [← HR.out, bits_no 11 _ (by decide) (used_lt k)]; simp [n1, n2, n3, n4, n5])
            have hu := HU.out
            go_wp2_with (go_at_call 120; refine hu.mono ?_; rintro e w3 ⟨rfl, rfl⟩; clear hu)
            go_ret
            exact ⟨by rw [← HE.out]; rfl, HB1.out⟩
        · by_cases n4 : x.ns = []
          · rw [n4] at f1
            have y1 := z1 n1
            have y3 := z3 n3
            clear z1 z3 z4
            have HE := Lib.hid (show (bits BinOp.andNot IntKind.i64 ((7 : Nat) : Int) ((usedI k : Nat) : Int) == 0) = r from by rw [← HR.out, bits_no 7 _ (by decide) (used_lt k)]; simp [n1, n2, n3, n4, n5])
            have hu := HU.out
            go_wp2_with (go_at_call 120; refine hu.mono ?_; rintro e w3 ⟨rfl, rfl⟩; clear hu)
            go_ret
            exact ⟨by rw [← HE.out]; rfl, HB1.out⟩
          · have y1 := z1 n1
            have y3 := z3 n3
            have y4 := z4 n4
            clear z1 z3 z4
            have HE := Lib.hid (show (bits BinOp.andNot IntKind.i64 ((15 : Nat) : Int) ((usedI k : Nat) : Int) == 0) = r from by rw [← HR.out, bits_no 15 _ (by decide) (used_lt k)]; simp [n1, n2, n3, n4, n5])
            have hu := HU.out
            go_wp2_with (go_at_call 120; refine hu.mono ?_; rintro e w3 ⟨rfl, rfl⟩; clear hu)
            go_ret
            exact ⟨by rw [← HE.out]; rfl, HB1.out⟩
  · by_cases n1 : x.nm = []
    · by_cases n2 : x.nu = 0
      · by_cases n3 : x.kids = []
        · by_cases n4 : x.ns = []
          · rw [n1, n3, n4] at f1
            clear z1 z3 z4
            have HE := Lib.hid (show r = false from by rw [← HR.out]; simp [n5])
            go_wp2_with fail
            go_ret
            exact ⟨by rw [HE.out]; rfl, HB1.out⟩
          · rw [n1, n3] at f1
            have y4 := z4 n4
            clear z1 z3 z4
            have HE := Lib.hid (show r = false from by rw [← HR.out]; simp [n5])
            go_wp2_with fail
            go_ret
            exact ⟨by rw [HE.out]; rfl, HB1.out⟩
        · by_cases n4 : x.ns = []
          · rw [n1, n4] at f1
            have y3 := z3 n3
            clear z1 z3 z4
            have HE := Lib.hid (show r = false from by rw [← HR.out]; simp [n5])
            go_wp2_with fail
            go_ret
            exact ⟨by rw [HE.out]; rfl, HB1.out⟩
          · rw [n1] at f1
            have y3 := z3 n3
            have y4 := z4 n4
            clear z1 z3 z4
            have HE := Lib.hid (show r = false from by rw [← HR.out]; simp [n5])
            go_wp2_with fail
            go_ret
            exact ⟨by rw [HE.out]; rfl, HB1.out⟩
      · by_cases n3 : x.kids = []
        · by_cases n4 : x.ns = []
          · rw [n1, n3, n4] at f1
            clear z1 z3 z4
            have HE := Lib.hid (show r = false from by rw [← HR.out]; simp [n5])
            go_wp2_with fail
            go_ret
            exact ⟨by rw [HE.out]; rfl, HB1.out⟩
          · rw [n1, n3] at f1
            have y4 := z4 n4
            clear z1 z3 z4
            have HE := Lib.hid (show r = false from by rw [← HR.out]; simp [n5])
            go_wp2_with fail
            go_ret
            exact ⟨by rw [HE.out]; rfl, HB1.out⟩
        · by_cases n4 : x.ns = []
          · rw [n1, n4] at f1
            have y3 := z3 n3
            clear z1 z3 z4
            have HE := Lib.hid (show r = false from by rw [← HR.out]; simp [n5])
            go_wp2_with fail
            go_ret
            exact ⟨by rw [HE.out]; rfl, HB1.out⟩
          · rw [n1] at f1
            have y3 := z3 n3
            have y4 := z4 n4
            clear z1 z3 z4
            have HE := Lib.hid (show r = false from by rw [← HR.out]; simp [n5])
            go_wp2_with fail
            go_ret
            exact ⟨by rw [HE.out]; rfl, HB1.out⟩
    · by_cases n2 : x.nu = 0
      · by_cases n3 : x.kids = []
        · by_cases n4 : x.ns = []
          · rw [n3, n4] at f1
            have y1 := z1 n1
            clear z1 z3 z4
            have HE := Lib.hid (show r = false from by rw [← HR.out]; simp [n5])
            go_wp2_with fail
            go_ret
            exact ⟨by rw [HE.out]; rfl, HB1.out⟩
          · rw [n3] at f1
            have y1 := z1 n1
            have y4 := z4 n4
            clear z1 z3 z4
            have HE := Lib.hid (show r = false from by rw [← HR.out]; simp [n5])
            go_wp2_with fail
            go_ret
            exact ⟨by rw [HE.out]; rfl, HB1.out⟩
        · by_cases n4 : x.ns = []
          · rw [n4] at f1
            have y1 := z1 n1
            have y3 := z3 n3
            clear z1 z3 z4
            have HE := Lib.hid (show r = false from by rw [← HR.out]; simp [n5])
            go_wp2_with fail
            go_ret
            exact ⟨by rw [HE.out]; rfl, HB1.out⟩
          · have y1 := z1 n1
            have y3 := z3 n3
            have y4 := z4 n4
            clear z1 z3 z4
            have HE := Lib.hid (show r = false from by rw [← HR.out]; simp [n5])
            go_wp2_with fail
            go_ret
            exact ⟨by rw [HE.out]; rfl, HB1.out⟩
      · by_cases n3 : x.kids = []
        · by_cases n4 : x.ns = []
          · rw [n3, n4] at f1
            have y1 := z1 n1
            clear z1 z3 z4
            have HE := Lib.hid (show r = false from by rw [← HR.out]; simp [n5])
            go_wp2_with fail
            go_ret
            exact ⟨by rw [HE.out]; rfl, HB1.out⟩
          · rw [n3] at f1
            have y1 := z1 n1
            have y4 := z4 n4
            clear z1 z3 z4
            have HE := Lib.hid (show r = false from by rw [← HR.out]; simp [n5])
            go_wp2_with fail
            go_ret
            exact ⟨by rw [HE.out]; rfl, HB1.out⟩
        · by_cases n4 : x.ns = []
          · rw [n4] at f1
            have y1 := z1 n1
            have y3 := z3 n3
            clear z1 z3 z4
            have HE := Lib.hid (show r = false from by rw [← HR.out]; simp [n5])
            go_wp2_with fail
            go_ret
            exact ⟨by rw [HE.out]; rfl, HB1.out⟩
          · have y1 := z1 n1
            have y3 := z3 n3
            have y4 := z4 n4
            clear z1 z3 z4
            have HE := Lib.hid (show r = false from by rw [← HR.out]; simp [n5])
            go_wp2_with fail
            go_ret
            exact ⟨by rw [HE.out]; rfl, HB1.out⟩
end Go.Proofs.YtfcceojfcmgmlaaGreatDoor.Fl

/-
  Names, literals, and lists of which all are such: the program's tree.
-/
namespace Go.Proofs.YtfcceojfcmgmlaaGreatDoor.Fl
open Go.RowKit Go.Shelf

theorem isNameT_any (l : List UInt8) (w : World) (hs : l.length ≤ 16777216) :
    Calls Tryz.prog 51 #[.string (mkB l)] w fun e w' => e = .returned (.bool (nameB l)) ∧ Below w.heap.size w w' := by
  have h := arity_any (mkB l) w (by show l.toArray.size ≤ _; simpa using hs)
  unfold nameB
  generalize arityL (mkB l) = a at *
  go_enter Tryz.func51, Tryz.ntmps51
  go_wp2_with fail
  refine h.mono ?_
  rintro e w' ⟨rfl, hb⟩
  go_wp2_with fail
  go_ret
  exact ⟨rfl, hb⟩
set_option maxRecDepth 100000 in
set_option maxHeartbeats 4000000 in
theorem allT_any (l : List (List UInt8)) (A : Option Addr) (c B : Nat) (w : World) (hr : SrAt w (Lo B) A l) (hB : B ≤ w.heap.size) (hc : l.length ≤ c) (hcc : c ≤ 9223372036854775807) (hs : ∀ x ∈ l, x.length ≤ 16777216) :
    Calls Tryz.prog 50 #[.slice A l.length c, .func (.func 51) #[] #[]] w fun e w' => e = .returned (.bool (l.all nameB)) ∧ Below w.heap.size w w' := by
  have HN := Lib.hid (fun (x : List UInt8) (hx : x.length ≤ 16777216) (w : World) => isNameT_any x w hx)
  have HS := Lib.hid hs
  have HRd := Lib.hid hr
  clear hs hr
  go_enter Tryz.func50, Tryz.ntmps50
  go_wp2_with fail
  go_loopw [9] (fun v wr => ∃ i : Nat, i ≤ l.length ∧ v = .int .i64 (i : Int) ∧ Hid ((l.take i).all nameB = true) ∧ Hid (Below w.heap.size w wr)) (fun v _ => l.length - (intOf v).toNat)
  case atStart => exact ⟨0, Nat.zero_le _, rfl, Lib.hid rfl, Lib.hid (Below.refl _ _)⟩
  case round =>
    obtain ⟨i, hi, rfl, HT, HB⟩ := hrel
    by_cases hlt : i < l.length
    case neg =>
      have e : i = l.length := by omega
      have hq : ¬ ((i : Int) < (l.length : Int)) := by omega
      have HE := Lib.hid (show l.all nameB = true by have := HT.out; rwa [e, List.take_length] at this)
      clear e HT
      go_wp2_with fail
      go_ret
      exact ⟨by rw [HE.out]; rfl, HB.out⟩
    have hq : (i : Int) < (l.length : Int) := by omega
    obtain ⟨b, o, rfl, hb, hcell⟩ := (HRd.out.below (HB.out.mono hB) (Nat.le_refl _)).get hlt
    have hb : b < B := hb
    have hbw : b < wr.heap.size := Nat.lt_of_lt_of_le hb (Nat.le_trans hB HB.out.size)
    have hn := HN.out l[i] (HS.out _ (List.getElem_mem hlt)) wr
    have HM := Lib.hid (all_take nameB hlt)
    obtain ⟨t, ht⟩ : ∃ t, nameB l[i] = t := ⟨_, rfl⟩
    rw [ht] at hn HM
    have HTi := Lib.hid ht
    clear ht
    go_wp2_with fail
    refine hn.mono ?_
    rintro e w' ⟨rfl, hb2⟩
    have HB2 := Lib.hid (HB.out.trans (hb2.mono HB.out.size))
    clear hn hb2 HB hcell
    cases t
    · have HE := Lib.hid (all_no nameB hlt HTi.out)
      go_wp2_with fail
      go_ret
      exact ⟨by rw [HE.out]; rfl, HB2.out⟩
    · have HT2 := Lib.hid (show (l.take (i + 1)).all nameB = true by rw [HM.out, HT.out]; rfl)
      go_wp2_with fail
      go_roundw
      case rel => exact ⟨i + 1, by omega, rfl, HT2, HB2⟩
      case measure => simp [intOf]; omega
set_option maxRecDepth 100000 in
set_option maxHeartbeats 4000000 in
theorem lit_any (x : Nd) (Ak : Option Addr) (ck : Nat) (An : Option Addr) (cn : Nat) (w : World) :
    Calls Tryz.prog 102 #[.agg #[.int .i64 x.kd, .string (mkB x.nm), .int .i64 x.nu, .slice Ak x.kids.length ck, .slice An x.ns.length cn, .int .i64 x.at_]] w fun e w' => e = .returned (.bool (litB x)) ∧ Below w.heap.size w w' := by
  obtain ⟨W1, hW1⟩ : ∃ W, w.alloc (.cells #[.int .i64 x.kd, .string (mkB x.nm), .int .i64 x.nu, .slice Ak x.kids.length ck, .slice An x.ns.length cn, .int .i64 x.at_] 47) = W := ⟨_, rfl⟩
  obtain ⟨X, hX⟩ : ∃ X, w.heap.size = X := ⟨_, rfl⟩
  have hb1 : Below w.heap.size w W1 := by rw [← hW1]; exact (Below.refl _ _).alloc (Nat.le_refl _) _
  have hx1 : W1.heap[X]? = some (.cells #[.int .i64 x.kd, .string (mkB x.nm), .int .i64 x.nu, .slice Ak x.kids.length ck, .slice An x.ns.length cn, .int .i64 x.at_] 47 (0, 0)) := by
    rw [← hW1, ← hX]; exact heap_alloc_new w _
  have HB1 := Lib.hid hb1
  obtain ⟨r, hr⟩ : ∃ r, litB x = r := ⟨_, rfl⟩
  rw [hr]
  have HR := Lib.hid hr
  clear hr
  go_enter Tryz.func102, Tryz.ntmps102
  go_upto_region 1 with fail
  try simp only [hW1, hX]
  clear hW1 hX hb1
  have f1 := cells6T hx1
  have l1 := lt_of_blk hx1
  cases b1 : bareB x 1
  · cases b2 : bareB x 2
    · cases b3 : bareB x 3
      · have HE := Lib.hid (show r = false from by rw [← HR.out]; simp [litB, b1, b2, b3])
        go_wp2_with (go_at_call 97; refine (bare_any x _ Ak ck An cn _).mono ?_; rintro e w2 ⟨rfl, hb2⟩; replace HB1 := Lib.hid (HB1.out.trans (hb2.mono HB1.out.size)); replace hx1 := (hb2.block _ l1).trans hx1; replace f1 := cells6T hx1; replace l1 := lt_of_blk hx1; clear hb2)
        go_ret
        exact ⟨by rw [HE.out]; rfl, HB1.out⟩
      · have HE := Lib.hid (show r = true from by rw [← HR.out]; simp [litB, b1, b2, b3])
        go_wp2_with (go_at_call 97; refine (bare_any x _ Ak ck An cn _).mono ?_; rintro e w2 ⟨rfl, hb2⟩; replace HB1 := Lib.hid (HB1.out.trans (hb2.mono HB1.out.size)); replace hx1 := (hb2.block _ l1).trans hx1; replace f1 := cells6T hx1; replace l1 := lt_of_blk hx1; clear hb2)
        go_ret
        exact ⟨by rw [HE.out]; rfl, HB1.out⟩
    · have HE := Lib.hid (show r = true from by rw [← HR.out]; simp [litB, b1, b2])
      go_wp2_with (go_at_call 97; refine (bare_any x _ Ak ck An cn _).mono ?_; rintro e w2 ⟨rfl, hb2⟩; replace HB1 := Lib.hid (HB1.out.trans (hb2.mono HB1.out.size)); replace hx1 := (hb2.block _ l1).trans hx1; replace f1 := cells6T hx1; replace l1 := lt_of_blk hx1; clear hb2)
      go_ret
      exact ⟨by rw [HE.out]; rfl, HB1.out⟩
  · have HE := Lib.hid (show r = true from by rw [← HR.out]; simp [litB, b1])
    go_wp2_with (go_at_call 97; refine (bare_any x _ Ak ck An cn _).mono ?_; rintro e w2 ⟨rfl, hb2⟩; replace HB1 := Lib.hid (HB1.out.trans (hb2.mono HB1.out.size)); replace hx1 := (hb2.block _ l1).trans hx1; replace f1 := cells6T hx1; replace l1 := lt_of_blk hx1; clear hb2)
    go_ret
    exact ⟨by rw [HE.out]; rfl, HB1.out⟩
set_option maxRecDepth 100000 in
set_option maxHeartbeats 8000000 in
theorem allV_val (f : Nd → Bool) (l : List Nd) (A : Option Addr) (c B : Nat) (w : World) (h : NdsAt w (Lo B) A l) (hB : B ≤ w.heap.size) (hc : l.length ≤ c) (hcc : c ≤ 9223372036854775807)
    (HF : ∀ (i : Nat) (hi : i < l.length) (v : Value) (w' : World), Below w.heap.size w w' → NvAt w' (Lo B) v l[i] → Calls Tryz.prog 73 #[v] w' fun e w2 => e = .returned (.bool (f l[i])) ∧ Below w'.heap.size w' w2) :
    Calls Tryz.prog 72 #[.slice A l.length c, .func (.func 73) #[] #[]] w fun e w' => e = .returned (.bool (l.all f)) ∧ Below w.heap.size w w' := by
  have HF := Lib.hid HF
  have H1 := Lib.hid h
  clear h
  go_enter Tryz.func72, Tryz.ntmps72
  go_wp2_with fail
  go_loopw [9] (fun v wr => ∃ i : Nat, i ≤ l.length ∧ v = .int .i64 (i : Int) ∧ Hid ((l.take i).all f = true) ∧ Hid (Below w.heap.size w wr)) (fun v _ => l.length - (intOf v).toNat)
  case atStart => exact ⟨0, Nat.zero_le _, rfl, Lib.hid rfl, Lib.hid (Below.refl _ _)⟩
  case round =>
    obtain ⟨i, hi, rfl, HT, HB⟩ := hrel
    by_cases hlt : i < l.length
    case neg =>
      have e : i = l.length := by omega
      have hq : ¬ ((i : Int) < (l.length : Int)) := by omega
      have HE := Lib.hid (show l.all f = true by have := HT.out; rwa [e, List.take_length] at this)
      clear e HT
      go_wp2_with fail
      go_ret
      exact ⟨by rw [HE.out]; rfl, HB.out⟩
    have hq : (i : Int) < (l.length : Int) := by omega
    have hN1 := (H1.out.below (HB.out.mono hB) (Nat.le_refl _)).at_ hlt
    obtain ⟨b, o, rfl, hb, Ak, ck, An, cn, d0, d1, d2, d3, d4, d5, g1, g2, g3, g4, g5, g6, g7, g8⟩ := hN1
    have hb : b < B := hb
    have hbw : b < wr.heap.size := Nat.lt_of_lt_of_le hb (Nat.le_trans hB HB.out.size)
    obtain ⟨W1, hW1⟩ : ∃ W, wr.alloc (.cells #[.int .i64 l[i].kd, .string (mkB l[i].nm), .int .i64 l[i].nu, .slice Ak l[i].kids.length ck, .slice An l[i].ns.length cn, .int .i64 l[i].at_] 47) = W := ⟨_, rfl⟩
    obtain ⟨X, hX⟩ : ∃ X, wr.heap.size = X := ⟨_, rfl⟩
    have hb1 : Below wr.heap.size wr W1 := by rw [← hW1]; exact (Below.refl _ _).alloc (Nat.le_refl _) _
    have hx1 : W1.heap[X]? = some (.cells #[.int .i64 l[i].kd, .string (mkB l[i].nm), .int .i64 l[i].nu, .slice Ak l[i].kids.length ck, .slice An l[i].ns.length cn, .int .i64 l[i].at_] 47 (0, 0)) := by
      rw [← hW1, ← hX]; exact heap_alloc_new wr _
    have HB1 := Lib.hid (HB.out.trans (hb1.mono HB.out.size))
    have hn := HF.out i hlt _ W1 HB1.out (show NvAt W1 (Lo B) (.agg #[.int .i64 l[i].kd, .string (mkB l[i].nm), .int .i64 l[i].nu, .slice Ak l[i].kids.length ck, .slice An l[i].ns.length cn, .int .i64 l[i].at_]) l[i] from ⟨Ak, ck, An, cn, rfl, g1, g2, g3, g4, g5.below (hb1.mono (Nat.le_trans hB HB.out.size)) (Nat.le_refl _), g6.below (hb1.mono (Nat.le_trans hB HB.out.size)) (Nat.le_refl _), g7, g8⟩)
    have HM := Lib.hid (all_take f hlt)
    have HNo := Lib.hid (fun hf => all_no f (l := l) hlt hf)
    obtain ⟨t, ht⟩ : ∃ t, f l[i] = t := ⟨_, rfl⟩
    rw [ht] at hn HM
    have HTi := Lib.hid ht
    clear ht HF g5 g6 g7 g8
    generalize l[i] = x at *
    go_upto_region 4 with fail
    try simp only [hW1, hX]
    clear hW1 hX hb1 d0 d1 d2 d3 d4 d5 hbw
    have f1 := cells6T hx1
    have l1 := lt_of_blk hx1
    cases t
    · have HE := Lib.hid (HNo.out HTi.out)
      go_wp2_with (go_at_call 73; refine hn.mono ?_; rintro e w2 ⟨rfl, hb2⟩; replace HB1 := Lib.hid (HB1.out.trans (hb2.mono HB1.out.size)); clear hn hb2)
      go_ret
      exact ⟨by rw [HE.out]; rfl, HB1.out⟩
    · have HT2 := Lib.hid (show (l.take (i + 1)).all f = true by rw [HM.out, HT.out]; rfl)
      go_wp2_with (go_at_call 73; refine hn.mono ?_; rintro e w2 ⟨rfl, hb2⟩; replace HB1 := Lib.hid (HB1.out.trans (hb2.mono HB1.out.size)); clear hn hb2)
      go_roundw
      case rel => exact ⟨i + 1, by omega, rfl, HT2, HB1⟩
      case measure => simp [intOf]; omega
set_option maxRecDepth 100000 in
set_option maxHeartbeats 8000000 in
theorem allV_el (f : Nd → Bool) (l : List Nd) (A : Option Addr) (c B : Nat) (w : World) (h : NdsAt w (Lo B) A l) (hB : B ≤ w.heap.size) (hc : l.length ≤ c) (hcc : c ≤ 9223372036854775807)
    (HF : ∀ (i : Nat) (hi : i < l.length) (v : Value) (w' : World), Below w.heap.size w w' → NvAt w' (Lo B) v l[i] → Calls Tryz.prog 98 #[v] w' fun e w2 => e = .returned (.bool (f l[i])) ∧ Below w'.heap.size w' w2) :
    Calls Tryz.prog 72 #[.slice A l.length c, .func (.func 98) #[] #[]] w fun e w' => e = .returned (.bool (l.all f)) ∧ Below w.heap.size w w' := by
  have HF := Lib.hid HF
  have H1 := Lib.hid h
  clear h
  go_enter Tryz.func72, Tryz.ntmps72
  go_wp2_with fail
  go_loopw [9] (fun v wr => ∃ i : Nat, i ≤ l.length ∧ v = .int .i64 (i : Int) ∧ Hid ((l.take i).all f = true) ∧ Hid (Below w.heap.size w wr)) (fun v _ => l.length - (intOf v).toNat)
  case atStart => exact ⟨0, Nat.zero_le _, rfl, Lib.hid rfl, Lib.hid (Below.refl _ _)⟩
  case round =>
    obtain ⟨i, hi, rfl, HT, HB⟩ := hrel
    by_cases hlt : i < l.length
    case neg =>
      have e : i = l.length := by omega
      have hq : ¬ ((i : Int) < (l.length : Int)) := by omega
      have HE := Lib.hid (show l.all f = true by have := HT.out; rwa [e, List.take_length] at this)
      clear e HT
      go_wp2_with fail
      go_ret
      exact ⟨by rw [HE.out]; rfl, HB.out⟩
    have hq : (i : Int) < (l.length : Int) := by omega
    have hN1 := (H1.out.below (HB.out.mono hB) (Nat.le_refl _)).at_ hlt
    obtain ⟨b, o, rfl, hb, Ak, ck, An, cn, d0, d1, d2, d3, d4, d5, g1, g2, g3, g4, g5, g6, g7, g8⟩ := hN1
    have hb : b < B := hb
    have hbw : b < wr.heap.size := Nat.lt_of_lt_of_le hb (Nat.le_trans hB HB.out.size)
    obtain ⟨W1, hW1⟩ : ∃ W, wr.alloc (.cells #[.int .i64 l[i].kd, .string (mkB l[i].nm), .int .i64 l[i].nu, .slice Ak l[i].kids.length ck, .slice An l[i].ns.length cn, .int .i64 l[i].at_] 47) = W := ⟨_, rfl⟩
    obtain ⟨X, hX⟩ : ∃ X, wr.heap.size = X := ⟨_, rfl⟩
    have hb1 : Below wr.heap.size wr W1 := by rw [← hW1]; exact (Below.refl _ _).alloc (Nat.le_refl _) _
    have hx1 : W1.heap[X]? = some (.cells #[.int .i64 l[i].kd, .string (mkB l[i].nm), .int .i64 l[i].nu, .slice Ak l[i].kids.length ck, .slice An l[i].ns.length cn, .int .i64 l[i].at_] 47 (0, 0)) := by
      rw [← hW1, ← hX]; exact heap_alloc_new wr _
    have HB1 := Lib.hid (HB.out.trans (hb1.mono HB.out.size))
    have hn := HF.out i hlt _ W1 HB1.out (show NvAt W1 (Lo B) (.agg #[.int .i64 l[i].kd, .string (mkB l[i].nm), .int .i64 l[i].nu, .slice Ak l[i].kids.length ck, .slice An l[i].ns.length cn, .int .i64 l[i].at_]) l[i] from ⟨Ak, ck, An, cn, rfl, g1, g2, g3, g4, g5.below (hb1.mono (Nat.le_trans hB HB.out.size)) (Nat.le_refl _), g6.below (hb1.mono (Nat.le_trans hB HB.out.size)) (Nat.le_refl _), g7, g8⟩)
    have HM := Lib.hid (all_take f hlt)
    have HNo := Lib.hid (fun hf => all_no f (l := l) hlt hf)
    obtain ⟨t, ht⟩ : ∃ t, f l[i] = t := ⟨_, rfl⟩
    rw [ht] at hn HM
    have HTi := Lib.hid ht
    clear ht HF g5 g6 g7 g8
    generalize l[i] = x at *
    go_upto_region 4 with fail
    try simp only [hW1, hX]
    clear hW1 hX hb1 d0 d1 d2 d3 d4 d5 hbw
    have f1 := cells6T hx1
    have l1 := lt_of_blk hx1
    cases t
    · have HE := Lib.hid (HNo.out HTi.out)
      go_wp2_with (go_at_call 98; refine hn.mono ?_; rintro e w2 ⟨rfl, hb2⟩; replace HB1 := Lib.hid (HB1.out.trans (hb2.mono HB1.out.size)); clear hn hb2)
      go_ret
      exact ⟨by rw [HE.out]; rfl, HB1.out⟩
    · have HT2 := Lib.hid (show (l.take (i + 1)).all f = true by rw [HM.out, HT.out]; rfl)
      go_wp2_with (go_at_call 98; refine hn.mono ?_; rintro e w2 ⟨rfl, hb2⟩; replace HB1 := Lib.hid (HB1.out.trans (hb2.mono HB1.out.size)); clear hn hb2)
      go_roundw
      case rel => exact ⟨i + 1, by omega, rfl, HT2, HB1⟩
      case measure => simp [intOf]; omega
set_option maxRecDepth 100000 in
set_option maxHeartbeats 8000000 in
theorem allV_fur (f : Nd → Bool) (l : List Nd) (A : Option Addr) (c B : Nat) (w : World) (h : NdsAt w (Lo B) A l) (hB : B ≤ w.heap.size) (hc : l.length ≤ c) (hcc : c ≤ 9223372036854775807)
    (HF : ∀ (i : Nat) (hi : i < l.length) (v : Value) (w' : World), Below w.heap.size w w' → NvAt w' (Lo B) v l[i] → Calls Tryz.prog 121 #[v] w' fun e w2 => e = .returned (.bool (f l[i])) ∧ Below w'.heap.size w' w2) :
    Calls Tryz.prog 72 #[.slice A l.length c, .func (.func 121) #[] #[]] w fun e w' => e = .returned (.bool (l.all f)) ∧ Below w.heap.size w w' := by
  have HF := Lib.hid HF
  have H1 := Lib.hid h
  clear h
  go_enter Tryz.func72, Tryz.ntmps72
  go_wp2_with fail
  go_loopw [9] (fun v wr => ∃ i : Nat, i ≤ l.length ∧ v = .int .i64 (i : Int) ∧ Hid ((l.take i).all f = true) ∧ Hid (Below w.heap.size w wr)) (fun v _ => l.length - (intOf v).toNat)
  case atStart => exact ⟨0, Nat.zero_le _, rfl, Lib.hid rfl, Lib.hid (Below.refl _ _)⟩
  case round =>
    obtain ⟨i, hi, rfl, HT, HB⟩ := hrel
    by_cases hlt : i < l.length
    case neg =>
      have e : i = l.length := by omega
      have hq : ¬ ((i : Int) < (l.length : Int)) := by omega
      have HE := Lib.hid (show l.all f = true by have := HT.out; rwa [e, List.take_length] at this)
      clear e HT
      go_wp2_with fail
      go_ret
      exact ⟨by rw [HE.out]; rfl, HB.out⟩
    have hq : (i : Int) < (l.length : Int) := by omega
    have hN1 := (H1.out.below (HB.out.mono hB) (Nat.le_refl _)).at_ hlt
    obtain ⟨b, o, rfl, hb, Ak, ck, An, cn, d0, d1, d2, d3, d4, d5, g1, g2, g3, g4, g5, g6, g7, g8⟩ := hN1
    have hb : b < B := hb
    have hbw : b < wr.heap.size := Nat.lt_of_lt_of_le hb (Nat.le_trans hB HB.out.size)
    obtain ⟨W1, hW1⟩ : ∃ W, wr.alloc (.cells #[.int .i64 l[i].kd, .string (mkB l[i].nm), .int .i64 l[i].nu, .slice Ak l[i].kids.length ck, .slice An l[i].ns.length cn, .int .i64 l[i].at_] 47) = W := ⟨_, rfl⟩
    obtain ⟨X, hX⟩ : ∃ X, wr.heap.size = X := ⟨_, rfl⟩
    have hb1 : Below wr.heap.size wr W1 := by rw [← hW1]; exact (Below.refl _ _).alloc (Nat.le_refl _) _
    have hx1 : W1.heap[X]? = some (.cells #[.int .i64 l[i].kd, .string (mkB l[i].nm), .int .i64 l[i].nu, .slice Ak l[i].kids.length ck, .slice An l[i].ns.length cn, .int .i64 l[i].at_] 47 (0, 0)) := by
      rw [← hW1, ← hX]; exact heap_alloc_new wr _
    have HB1 := Lib.hid (HB.out.trans (hb1.mono HB.out.size))
    have hn := HF.out i hlt _ W1 HB1.out (show NvAt W1 (Lo B) (.agg #[.int .i64 l[i].kd, .string (mkB l[i].nm), .int .i64 l[i].nu, .slice Ak l[i].kids.length ck, .slice An l[i].ns.length cn, .int .i64 l[i].at_]) l[i] from ⟨Ak, ck, An, cn, rfl, g1, g2, g3, g4, g5.below (hb1.mono (Nat.le_trans hB HB.out.size)) (Nat.le_refl _), g6.below (hb1.mono (Nat.le_trans hB HB.out.size)) (Nat.le_refl _), g7, g8⟩)
    have HM := Lib.hid (all_take f hlt)
    have HNo := Lib.hid (fun hf => all_no f (l := l) hlt hf)
    obtain ⟨t, ht⟩ : ∃ t, f l[i] = t := ⟨_, rfl⟩
    rw [ht] at hn HM
    have HTi := Lib.hid ht
    clear ht HF g5 g6 g7 g8
    generalize l[i] = x at *
    go_upto_region 4 with fail
    try simp only [hW1, hX]
    clear hW1 hX hb1 d0 d1 d2 d3 d4 d5 hbw
    have f1 := cells6T hx1
    have l1 := lt_of_blk hx1
    cases t
    · have HE := Lib.hid (HNo.out HTi.out)
      go_wp2_with (go_at_call 121; refine hn.mono ?_; rintro e w2 ⟨rfl, hb2⟩; replace HB1 := Lib.hid (HB1.out.trans (hb2.mono HB1.out.size)); clear hn hb2)
      go_ret
      exact ⟨by rw [HE.out]; rfl, HB1.out⟩
    · have HT2 := Lib.hid (show (l.take (i + 1)).all f = true by rw [HM.out, HT.out]; rfl)
      go_wp2_with (go_at_call 121; refine hn.mono ?_; rintro e w2 ⟨rfl, hb2⟩; replace HB1 := Lib.hid (HB1.out.trans (hb2.mono HB1.out.size)); clear hn hb2)
      go_roundw
      case rel => exact ⟨i + 1, by omega, rfl, HT2, HB1⟩
      case measure => simp [intOf]; omega
end Go.Proofs.YtfcceojfcmgmlaaGreatDoor.Fl

/-
  What may stand in a literal array; what a message may be.
-/
namespace Go.Proofs.YtfcceojfcmgmlaaGreatDoor.Fl
open Go.RowKit Go.Shelf

theorem kid_lt {x : Nd} {i : Nat} (h : i < x.kids.length) : cntN x.kids[i] < cntN x := by
  have := cnt_mem (List.getElem_mem h)
  rw [cntN_eq x]; omega
theorem trim_len (l p : List UInt8) : (Lib.trimSuffix l p).length ≤ l.length := by
  unfold Lib.trimSuffix
  split
  · rw [List.length_take]; omega
  · exact Nat.le_refl _
theorem arity_bd (s : ByteArray) : -1 ≤ arityL s ∧ arityL s ≤ 70 := by
  unfold arityL
  split
  · exact ⟨by decide, by decide⟩
  next h =>
    split
    · exact ⟨by decide, by decide⟩
    split
    · exact ⟨by decide, by decide⟩
    split
    · unfold keysL
      split
      · have h1 := spl_len (Lib.trimSuffix (sb s) [58])
        have h2 := trim_len (sb s) [58]
        rw [sb_len] at h2
        constructor <;> omega
      · exact ⟨by decide, by decide⟩
    · exact ⟨by decide, by decide⟩
set_option maxRecDepth 100000 in
set_option maxHeartbeats 8000000 in
theorem el_any (k : Nat) : ∀ (x : Nd) (v : Value) (B : Nat) (w : World), cntN x ≤ k → NvAt w (Lo B) v x → B ≤ w.heap.size →
    Calls Tryz.prog 98 #[v] w fun e w' => e = .returned (.bool (elN x)) ∧ Below w.heap.size w w' := by
  induction k using Nat.strongRecOn with
  | _ k ih =>
    intro x v B w hk hv hB
    obtain ⟨Ak, ck, An, cn, rfl, g1, g2, g3, g4, g5, g6, g7, g8⟩ := hv
    have HK := Lib.hid (fun w' (hb : Below w.heap.size w w') => allV_el elN x.kids Ak ck B w' (g6.below (hb.mono hB) (Nat.le_refl _)) (Nat.le_trans hB hb.size) g1 g3 (fun i hi v w2 hb2 hv2 => ih (cntN x.kids[i]) (Nat.lt_of_lt_of_le (kid_lt hi) hk) x.kids[i] v B w2 (Nat.le_refl _) hv2 (Nat.le_trans (Nat.le_trans hB hb.size) hb2.size)))
    clear ih g1 g2 g3 g4 g5 g6 g7 g8 hB hk
    obtain ⟨W1, hW1⟩ : ∃ W, w.alloc (.cells #[.int .i64 x.kd, .string (mkB x.nm), .int .i64 x.nu, .slice Ak x.kids.length ck, .slice An x.ns.length cn, .int .i64 x.at_] 47) = W := ⟨_, rfl⟩
    obtain ⟨X, hX⟩ : ∃ X, w.heap.size = X := ⟨_, rfl⟩
    have hb1 : Below w.heap.size w W1 := by rw [← hW1]; exact (Below.refl _ _).alloc (Nat.le_refl _) _
    have hx1 : W1.heap[X]? = some (.cells #[.int .i64 x.kd, .string (mkB x.nm), .int .i64 x.nu, .slice Ak x.kids.length ck, .slice An x.ns.length cn, .int .i64 x.at_] 47 (0, 0)) := by
      rw [← hW1, ← hX]; exact heap_alloc_new w _
    have HB1 := Lib.hid hb1
    obtain ⟨r, hr⟩ : ∃ r, elN x = r := ⟨_, rfl⟩
    rw [hr]
    have HR := Lib.hid hr
    clear hr
    have HBr := Lib.hid (fun (k : Int) (w' : World) => bare_any x k Ak ck An cn w')
    have HL := Lib.hid (fun (w' : World) => lit_any x Ak ck An cn w')
    go_enter Tryz.func98, Tryz.ntmps98
    go_upto_region 1 with fail
    try simp only [hW1, hX]
    clear hW1 hX hb1
    have f1 := cells6T hx1
    have l1 := lt_of_blk hx1
    by_cases h4 : x.kd = 4
    · rw [h4] at HBr f1 hx1
      cases b4 : bareB x 4
      · have HE := Lib.hid (show r = false from by rw [← HR.out, elN_eq]; simp [h4, b4])
        go_wp2_with (go_at_call 97; refine (HBr.out _ _).mono ?_; rintro e w2 ⟨rfl, hb2⟩; replace HB1 := Lib.hid (HB1.out.trans (hb2.mono HB1.out.size)); replace hx1 := (hb2.block _ l1).trans hx1; replace f1 := cells6T hx1; replace l1 := lt_of_blk hx1; clear hb2)
        go_ret
        exact ⟨by rw [HE.out]; rfl, HB1.out⟩
      · have HE := Lib.hid (show r = x.kids.all elN from by rw [← HR.out, elN_eq]; simp [h4, b4, elL_all])
        go_wp2_with (first
          | (go_at_call 97; refine (HBr.out _ _).mono ?_; rintro e w2 ⟨rfl, hb2⟩; replace HB1 := Lib.hid (HB1.out.trans (hb2.mono HB1.out.size)); replace hx1 := (hb2.block _ l1).trans hx1; replace f1 := cells6T hx1; replace l1 := lt_of_blk hx1; clear hb2)
          | (go_at_call 72; refine (HK.out _ HB1.out).mono ?_; rintro e w2 ⟨rfl, hb2⟩; replace HB1 := Lib.hid (HB1.out.trans (hb2.mono HB1.out.size)); replace hx1 := (hb2.block _ l1).trans hx1; replace f1 := cells6T hx1; replace l1 := lt_of_blk hx1; clear hb2)
          )
        go_ret
        exact ⟨by rw [HE.out]; rfl, HB1.out⟩
    by_cases h5 : x.kd = 5
    · rw [h5] at HBr f1 hx1
      cases b5 : bareB x 5
      · have HE := Lib.hid (show r = false from by rw [← HR.out, elN_eq]; simp [h5, b5])
        go_wp2_with (go_at_call 97; refine (HBr.out _ _).mono ?_; rintro e w2 ⟨rfl, hb2⟩; replace HB1 := Lib.hid (HB1.out.trans (hb2.mono HB1.out.size)); replace hx1 := (hb2.block _ l1).trans hx1; replace f1 := cells6T hx1; replace l1 := lt_of_blk hx1; clear hb2)
        go_ret
        exact ⟨by rw [HE.out]; rfl, HB1.out⟩
      cases m1 : (x.nm == [116, 114, 117, 101])
      · cases m2 : (x.nm == [102, 97, 108, 115, 101])
        · cases m3 : (x.nm == [110, 105, 108])
          · have HE := Lib.hid (show r = false from by rw [← HR.out, elN_eq, if_neg h4, if_pos h5, b5, m1, m2, m3]; simp [])
            go_wp2_with (go_at_call 97; refine (HBr.out _ _).mono ?_; rintro e w2 ⟨rfl, hb2⟩; replace HB1 := Lib.hid (HB1.out.trans (hb2.mono HB1.out.size)); replace hx1 := (hb2.block _ l1).trans hx1; replace f1 := cells6T hx1; replace l1 := lt_of_blk hx1; clear hb2)
            go_ret
            exact ⟨by rw [HE.out]; rfl, HB1.out⟩
          · have HE := Lib.hid (show r = true from by rw [← HR.out, elN_eq, if_neg h4, if_pos h5, b5, m1, m2, m3]; simp [])
            go_wp2_with (go_at_call 97; refine (HBr.out _ _).mono ?_; rintro e w2 ⟨rfl, hb2⟩; replace HB1 := Lib.hid (HB1.out.trans (hb2.mono HB1.out.size)); replace hx1 := (hb2.block _ l1).trans hx1; replace f1 := cells6T hx1; replace l1 := lt_of_blk hx1; clear hb2)
            go_ret
            exact ⟨by rw [HE.out]; rfl, HB1.out⟩
        · have HE := Lib.hid (show r = true from by rw [← HR.out, elN_eq, if_neg h4, if_pos h5, b5, m1, m2]; simp [])
          go_wp2_with (go_at_call 97; refine (HBr.out _ _).mono ?_; rintro e w2 ⟨rfl, hb2⟩; replace HB1 := Lib.hid (HB1.out.trans (hb2.mono HB1.out.size)); replace hx1 := (hb2.block _ l1).trans hx1; replace f1 := cells6T hx1; replace l1 := lt_of_blk hx1; clear hb2)
          go_ret
          exact ⟨by rw [HE.out]; rfl, HB1.out⟩
      · have HE := Lib.hid (show r = true from by rw [← HR.out, elN_eq, if_neg h4, if_pos h5, b5, m1]; simp [])
        go_wp2_with (go_at_call 97; refine (HBr.out _ _).mono ?_; rintro e w2 ⟨rfl, hb2⟩; replace HB1 := Lib.hid (HB1.out.trans (hb2.mono HB1.out.size)); replace hx1 := (hb2.block _ l1).trans hx1; replace f1 := cells6T hx1; replace l1 := lt_of_blk hx1; clear hb2)
        go_ret
        exact ⟨by rw [HE.out]; rfl, HB1.out⟩
    have HE := Lib.hid (show r = litB x from by rw [← HR.out, elN_eq, if_neg h4, if_neg h5])
    go_wp2_with (go_at_call 102; refine (HL.out _).mono ?_; rintro e w2 ⟨rfl, hb2⟩; replace HB1 := Lib.hid (HB1.out.trans (hb2.mono HB1.out.size)); replace hx1 := (hb2.block _ l1).trans hx1; replace f1 := cells6T hx1; replace l1 := lt_of_blk hx1; clear hb2)
    go_ret
    exact ⟨by rw [HE.out]; rfl, HB1.out⟩
end Go.Proofs.YtfcceojfcmgmlaaGreatDoor.Fl
