/-
  Memory as cells: Alloc.
-/
import Derived.Test.YtahmljjjdoaahaaDoorPHeap
namespace Go.Proofs.YtahmljjjdoaahaaDoor.Fl
open Go.RowKit

theorem step_copy_row {P : Program} {ops : Array Oper} {o : Oper} {a : Act} {w : World} {K : Act → World → Prop} {Q : Exit → Act → World → Prop} {E : Prop} (hgd : o.guard = none) (d s : Operand) (dT sT : TypeId)
    (ho : o.op = .call { callee := .builtin .copy, args := #[d, s], argTypes := #[dT, sT] }) (elem : TypeId) (hu : P.underlying dT = some (.slice elem)) (hsz : (P.info? elem).map (·.size) = some 1)
    (g off dLen dCap : Nat) (ad : Addr) (sLen sCap : Nat) (hd : a.eval d = .slice (some ⟨g, off, none⟩) dLen dCap) (hs : a.eval s = .slice (some ad) sLen sCap)
    (cur : Array Value) (t : TypeId) (hg : w.heap[g]? = some (.cells cur t (0, 0))) (cs : List Value) (hn : cs.length = Nat.min sLen dLen)
    (hsrc : ∀ j v, cs[j]? = some v → w.cell? (ad.add j) = some v) (hfit : off + cs.length ≤ cur.size) (h1 : ∀ v ∈ cs, v.oneCell' = true)
    (h : K (a.put o.dst (goInt cs.length)) (w.setRow g (cur.toList.take off ++ (cs ++ cur.toList.drop (off + cs.length))).toArray)) :
    if Region.wanted o (yielded ops a.tmps) = true then Oper.wp P o a w K Q else E := by
  have hw : Region.wanted o (yielded ops a.tmps) = true := by simp [Region.wanted, hgd]
  rw [if_pos hw]
  have hrun := run_copy_row (P := P) w dT sT o.type elem g off dLen dCap ad sLen sCap cur t cs hu hsz hg hn hsrc hfit h1
  unfold Oper.wp
  simp [execOp, ho, resolve, invoke, builtin, hd, hs, hrun, Result.andThen]
  exact h
theorem wsize : (Tryd.prog.info? 38).map (·.size) = some 1 := by kernel_rfl
theorem two {w : World} {g : Nat} {v0 v1 : Value} {T : TypeId} (h : w.heap[g]? = some (.cells #[v0, v1] T (0, 0))) : w.cell? ⟨g, 0, none⟩ = some v0 ∧ w.cell? ⟨g, 1, none⟩ = some v1 :=
  ⟨cell_of_row _ _ _ _ _ _ h, cell_of_row _ _ _ _ _ _ h⟩
theorem hwords_any {base g gc cap gb gb2 size last : Nat} {L ws : List Nat} (i n cl kind sz hash : Nat) (mark : Bool) (w : World) (h : HeapAt w base g gc cap gb gb2 size last L ws) (c1 : cl < 18446744073709551616)
    (hn : cellsI cl kind sz hash = n) (hi : i + 2 + n ≤ L.length) :
    Calls Tryd.prog 37 #[.pointer (some ⟨g, 0, none⟩), .int .i64 (i : Int), .agg #[.int .u64 (cl : Int), .int .i64 (kind : Int), .int .i64 (sz : Int), .int .u32 (hash : Int), .bool mark]] w fun e w' => ∃ A c, e = .returned (.slice A n c) ∧ (0 < n → A = some ⟨gc, i + 2, none⟩) ∧ Below w.heap.size w w' := by
  rcases Nat.eq_zero_or_pos n with rfl | h0
  · exact (words_zero i cl kind sz hash mark w h (by omega) (by omega) hn (by omega)).mono fun e w' ⟨⟨A, c, he⟩, hb⟩ => ⟨A, c, he, by omega, hb⟩
  · exact (words_pos i n cl kind sz hash mark w h (by omega) (by omega) hn h0 hi).mono fun e w' ⟨he, hb⟩ => ⟨_, _, he, fun _ => rfl, hb⟩
theorem fill_set (L : List Nat) (cl X f n k : Nat) (h : k < n) : (L ++ (cl :: X :: (List.replicate k f ++ List.replicate (n - k) 0))).set (L.length + 2 + k) f = L ++ (cl :: X :: (List.replicate (k + 1) f ++ List.replicate (n - (k + 1)) 0)) := by
  rw [List.set_append_right _ _ (by omega), show L.length + 2 + k - L.length = k + 2 by omega, List.set_cons_succ, List.set_cons_succ, List.set_append_right _ _ (by simp), List.length_replicate, Nat.sub_self, show n - k = (n - (k + 1)) + 1 by omega, List.replicate_succ, List.set_cons_zero, List.replicate_succ', List.append_assoc]; rfl
theorem pack_obj (cl kind size hash : Nat) (mark : Bool) (w : World) (hE : hErr cl kind size hash = 0) (hl : cl < 18446744073709551616) :
    Calls Tryd.prog 34 #[.agg #[.int .u64 (cl : Int), .int .i64 (kind : Int), .int .i64 (size : Int), .int .u32 (hash : Int), .bool mark]] w fun e w' => e = .returned (.tuple #[.agg #[.int .u64 (cl : Int), .int .u64 (pk kind size hash mark : Nat)], .int .i64 0]) ∧ Below w.heap.size w w' := by
  rw [← pkI_nat]
  exact pack_yes cl kind size hash mark w (by omega) (by omega) (by omega) hE
set_option maxHeartbeats 2000000 in
theorem alloc_full {base g gc cap gb gb2 size last : Nat} {L ws : List Nat} (cl kind sz n : Nat) (fill : Int) (w : World) (h : HeapAt w base g gc cap gb gb2 size last L ws) (hE : hErr cl kind sz 0 = 0) (hl : cl < 18446744073709551616)
    (hn : cellsI cl kind sz 0 = n) (hn2 : n ≤ 1048576) (hfull : size < L.length + n + 2) :
    Calls Tryd.prog 13 #[.pointer (some ⟨g, 0, none⟩), .int .u64 (cl : Int), .int .i64 (kind : Int), .int .i64 (sz : Int), .int .u64 fill] w fun e w' => e = .returned (.tuple #[.int .u64 0, .int .i64 8]) ∧ Below w.heap.size w w' := by
  have hp := fun (w' : World) => pack_obj cl kind sz 0 false w' hE hl
  have hc := fun (w' : World) => cells_any cl kind sz 0 false w' (by omega) (by omega)
  rw [hn] at hc
  have hfr := fun (w' : World) (hw' : HeapAt w' base g gc cap gb gb2 size last L ws) => free_any w' hw'
  have hrm := h.room
  have hsm := h.small
  have hg1 := h.gl.1
  have H := Lib.hid h
  obtain ⟨F, hF⟩ : ∃ F, size - L.length = F := ⟨_, rfl⟩
  rw [hF] at hfr
  have hF2 : F < n + 2 := by omega
  have HF := Lib.hid hF
  clear hn h hE hfull hl hF
  generalize pk kind sz 0 false = X at hp
  go_enter Tryd.func13, Tryd.ntmps13
  go_wp2_with fail
  refine (hp _).mono ?_
  rintro e w1 ⟨rfl, hb1⟩
  have s1 := hb1.size
  simp at s1
  have t1 : w.heap.size < w1.heap.size := by omega
  have B1 : w1.heap[w.heap.size]? = some (.cells #[.int .u64 (cl : Int), .int .i64 (kind : Int), .int .i64 (sz : Int), .int .u32 0, .bool false] 52 (0, 0)) := by
    rw [hb1.block _ (by simp)]; exact heap_alloc_new w _
  have hbw1 : Below w.heap.size w w1 := ((Below.refl _ _).alloc (Nat.le_refl _) _).trans (hb1.mono (by simp))
  have f1 := cells5 B1
  clear hb1
  go_wp2_with fail
  refine (hc _).mono ?_
  rintro e w2 ⟨rfl, hb2⟩
  have s2 := hb2.size
  simp at s2
  have hbw2 : Below w.heap.size w w2 := (hbw1.alloc (by omega) _).trans (hb2.mono (by simp; omega))
  have H2 := Lib.hid (H.out.below hbw2)
  clear hb2 f1 B1 hbw1
  go_wp2_with fail
  refine (hfr _ H2.out).mono ?_
  rintro e w3 ⟨rfl, rfl⟩
  go_wp2_with fail
  go_ret2
  exact ⟨rfl, hbw2⟩
def AllocPost (g gc gb gb2 base size last cl kind sz n fill : Nat) (L ws : List Nat) (w : World) (e : Ending) (w' : World) : Prop := ∃ gc' cap', e = .returned (.tuple #[.int .u64 ((L.length : Int) * 2), .int .i64 0]) ∧
  HeapAt w' base g gc' cap' gb gb2 size last (L ++ (cl :: pk kind sz 0 false :: List.replicate n fill)) (flip ws L.length) ∧ (gc' = gc ∨ w.heap.size ≤ gc') ∧ Aside g gc gb2 w w'
set_option maxRecDepth 100000 in
set_option maxHeartbeats 2000000 in
theorem alloc_fit {base g gc cap gb gb2 size last : Nat} {L ws : List Nat} (cl kind sz n : Nat) (fill : Nat) (w : World) (h : HeapAt w base g gc cap gb gb2 size last L ws) (hE : hErr cl kind sz 0 = 0) (hl : cl < 18446744073709551616)
    (hn : cellsI cl kind sz 0 = n) (hn2 : n ≤ 1048576) (hfit : L.length + n + 2 ≤ size) (hfree : bitAt ws L.length = false) (hk : kind ≠ 2) (hf : fill < 18446744073709551616) (hbs : base ≤ w.heap.size) :
    Calls Tryd.prog 13 #[.pointer (some ⟨g, 0, none⟩), .int .u64 (cl : Int), .int .i64 (kind : Int), .int .i64 (sz : Int), .int .u64 (fill : Int)] w (AllocPost g gc gb gb2 base size last cl kind sz n fill L ws w) := by
  have hp := fun (w' : World) => pack_obj cl kind sz 0 false w' hE hl
  have hc := fun (w' : World) => cells_any cl kind sz 0 false w' (by omega) (by omega)
  rw [hn] at hc
  have hfr := fun (w' : World) (hw' : HeapAt w' base g gc cap gb gb2 size last L ws) => free_any w' hw'
  have hrm := h.room
  have hsm := h.small
  have hg1 := h.gl.1
  have H := Lib.hid h
  obtain ⟨F, hF⟩ : ∃ F, size - L.length = F := ⟨_, rfl⟩
  rw [hF] at hfr
  have hF2 : n + 2 ≤ F := by omega
  have HF := Lib.hid hF
  have hk2 : ((kind : Int) != 2) = true := by simp; omega
  have HX := Lib.hid (pk_lt (kind := kind) (size := sz) (hash := 0) (mark := false) (by have := hErr_ok hE; omega) (by have := hErr_ok hE; omega) (by omega))
  have HFree := Lib.hid hfree
  have HCI := Lib.hid hn
  have HCl := Lib.hid hl
  have HFill := Lib.hid hf
  clear hn h hE hl hF hfree hk hf
  obtain ⟨X, hXX⟩ : ∃ X, pk kind sz 0 false = X := ⟨_, rfl⟩
  rw [hXX] at hp HX
  have HXX := Lib.hid hXX
  clear hXX
  go_enter Tryd.func13, Tryd.ntmps13
  go_wp2_with fail
  refine (hp _).mono ?_
  rintro e w1 ⟨rfl, hb1⟩
  have s1 := hb1.size
  simp at s1
  have t1 : w.heap.size < w1.heap.size := by omega
  have B1 : w1.heap[w.heap.size]? = some (.cells #[.int .u64 (cl : Int), .int .i64 (kind : Int), .int .i64 (sz : Int), .int .u32 0, .bool false] 52 (0, 0)) := by
    rw [hb1.block _ (by simp)]; exact heap_alloc_new w _
  have hbw1 : Below w.heap.size w w1 := ((Below.refl _ _).alloc (Nat.le_refl _) _).trans (hb1.mono (by simp))
  have f1 := cells5 B1
  clear hb1
  go_wp2_with fail
  refine (hc _).mono ?_
  rintro e w2 ⟨rfl, hb2⟩
  have s2 := hb2.size
  simp at s2
  have hbw2 : Below w.heap.size w w2 := (hbw1.alloc (by omega) _).trans (hb2.mono (by simp; omega))
  have H2 := Lib.hid (H.out.below hbw2)
  have P1 : w2.heap[w.heap.size]? = some (.cells #[.int .u64 (cl : Int), .int .i64 (kind : Int), .int .i64 (sz : Int), .int .u32 0, .bool false] 52 (0, 0)) := by
    rw [hb2.block _ (by simp; omega), heap_alloc_old _ _ t1]; exact B1
  have P2 : w2.heap[w1.heap.size]? = some (.cells #[.int .u64 (cl : Int), .int .u64 (X : Int)] 92 (0, 0)) := by
    rw [hb2.block _ (by simp)]; exact heap_alloc_new w1 _
  clear hb2 f1 B1 hbw1
  go_wp2_with fail
  refine (hfr _ H2.out).mono ?_
  rintro e w3 ⟨rfl, rfl⟩
  have c1' := H2.out.c1
  have lw : w.heap.size ≤ w2.heap.size := hbw2.size
  obtain ⟨gc', cap', w3, hA, hO, hG, hgc⟩ := append_zeros w2 base gc cap (n + 2) L 44 H2.out.own (by omega) (by omega) (by omega)
  obtain ⟨M, hM⟩ : ∃ M, L ++ List.replicate (n + 2) 0 = M := ⟨_, rfl⟩
  have hML : L.length + (n + 2) = M.length := by rw [← hM]; simp
  rw [hML, show ((n + 2 : Nat) : Int) = 2 + (n : Int) by omega] at hA
  rw [hML, hM] at hO
  have H4 := Lib.hid (H2.out.grown hG hO (by omega) (by omega) (by
    intro x hx
    rw [← hM] at hx
    rcases List.mem_append.1 hx with h1 | h1
    · exact H.out.lt x h1
    · rw [List.eq_of_mem_replicate h1]; decide))
  obtain ⟨w4, hw4⟩ : ∃ w4, w3.setCell ⟨g, 1, none⟩ (.slice (some ⟨gc', 0, none⟩) M.length cap') = w4 := ⟨_, rfl⟩
  rw [hw4] at H4
  have hMl : L.length + 2 + n ≤ M.length := by omega
  have hMs : M.length ≤ 16777216 := by omega
  have HM := Lib.hid hM
  have HA := Lib.hid hA
  have hfg : w3.frozen? ⟨g, 1, none⟩ = false := by
    have := frozen_of_row _ g 1 _ _ ((hG.block g H2.out.gl.1 (by simpa using H2.out.apart.1)).trans H2.out.hd)
    exact this
  obtain ⟨og, hog⟩ : ∃ u, w3.cell? ⟨g, 1, none⟩ = some u := ⟨_, cell_of_row _ g 1 _ _ _ ((hG.block g H2.out.gl.1 (by simpa using H2.out.apart.1)).trans H2.out.hd)⟩
  have HG := Lib.hid hG
  obtain ⟨curO, hcO, hz1⟩ := H2.out.row
  clear hz1
  have n1 : w.heap.size ≠ gc := other_type P1 hcO (by decide)
  have n2 : w1.heap.size ≠ gc := other_type P2 hcO (by decide)
  have n3 : w.heap.size ≠ g := other_type P1 H2.out.hd (by decide)
  have n4 : w1.heap.size ≠ g := other_type P2 H2.out.hd (by decide)
  have Q1 : w4.heap[w.heap.size]? = some (.cells #[.int .u64 (cl : Int), .int .i64 (kind : Int), .int .i64 (sz : Int), .int .u32 0, .bool false] 52 (0, 0)) := by
    rw [← hw4, Below.heap_setCell _ _ _ _ n3, hG.block _ (by omega) (by simpa using n1)]; exact P1
  have Q2 : w4.heap[w1.heap.size]? = some (.cells #[.int .u64 (cl : Int), .int .u64 (X : Int)] 92 (0, 0)) := by
    rw [← hw4, Below.heap_setCell _ _ _ _ n4, hG.block _ (by omega) (by simpa using n2)]; exact P2
  have As4 := Lib.hid (show Aside g gc gb2 w w4 by
    rw [← hw4]; exact ((Aside.of_below hbw2).trans (Aside.of_grown hG) (.inl rfl)).trans (Aside.set_g w3 1 _) (.inl rfl))
  have hgc' : gc' = gc ∨ w.heap.size ≤ gc' := by rcases hgc with h | h; exact .inl h; exact .inr (by omega)
  clear hA hO hM hML hG P1 P2 n1 n2 n3 n4 hcO hgc hbw2 s1 s2
  go_upto_region 10 with (at_builtin; refine Lib.wpList_append_run _ rfl _ _ _ _ rfl _ _ rfl rfl _ _ HA.out ?_)
  clear hc hfr HA HG hw4 H2 HF c1' hfg hog lw hF2 hp
  obtain ⟨W0, hW0⟩ : ∃ W0, w.heap.size = W0 := ⟨_, rfl⟩
  rw [hW0] at Q1 hgc' ⊢
  generalize w1.heap.size = W1 at *
  have HW0 := Lib.hid hW0
  have c1' := H4.out.c1
  obtain ⟨cur, hcur, hz1, hlc, hcm, hcs, hz2⟩ := H4.out.row
  clear hz1 hz2
  unfold maxLen at hcm
  have HC := Lib.hid hcur
  have f2 := two Q2
  have HS := Lib.hid (show ∀ j v, ([Value.int .u64 (cl : Int), .int .u64 (X : Int)] : List Value)[j]? = some v → w4.drew.cell? ((⟨W1, 0, none⟩ : Addr).add j) = some v by
    intro j v hj
    rcases j with _ | _ | j
    · simp at hj; subst hj; exact f2.1
    · simp at hj; subst hj; exact f2.2
    · simp at hj)
  have H1 := Lib.hid (show ∀ v ∈ [Value.int .u64 (cl : Int), .int .u64 (X : Int)], v.oneCell' = true by
    intro v hv; simp at hv; rcases hv with rfl | rfl <;> rfl)
  have Hsz := Lib.hid (show L.length + 2 ≤ cur.size by omega)
  have hlM : L.length ≤ M.length := by omega
  have hlc2 : ¬ (cap' = L.length) := by omega
  have Hn := Lib.hid (show ([Value.int .u64 (cl : Int), .int .u64 (X : Int)] : List Value).length = Nat.min 2 (M.length - L.length) by
    have : (2 : Nat) = min 2 (M.length - L.length) := by omega
    exact this)
  clear hcur hcs
  go_region_law (refine step_copy_row rfl (.tmp 57) (.tmp 58) 44 44 rfl 38 Tryd.underlying44 wsize gc' L.length (M.length - L.length) (cap' - L.length) ⟨W1, 0, none⟩ 2 2 rfl rfl cur 38 HC.out [.int .u64 (cl : Int), .int .u64 (X : Int)] Hn.out HS.out Hsz.out H1.out ?_)
  have hX := HX.out
  have hcl := HCl.out
  have H5 := Lib.hid (H4.out.drew.splice (cur := cur) HC.out L.length [cl, X] (by simp; omega) (by
    intro x hx; simp at hx; rcases hx with rfl | rfl; exact hcl; exact hX))
  have hne : W0 ≠ gc' := other_type Q1 HC.out (by decide)
  have Q5 : (w4.drew.setRow gc' (cur.toList.take L.length ++ (cw [cl, X] ++ cur.toList.drop (L.length + (cw [cl, X]).length))).toArray).heap[W0]? = some (.cells #[.int .u64 (cl : Int), .int .i64 (kind : Int), .int .i64 (sz : Int), .int .u32 0, .bool false] 52 (0, 0)) :=
    (setRow_other _ _ _ _ hne).trans Q1
  have As5 := Lib.hid (As4.out.trans ((Aside.of_below ((Below.refl w4.heap.size w4).drew)).trans (Aside.row (g := g) (gc := gc') (gb2 := gb2) w4.drew (cur.toList.take L.length ++ (cw [cl, X] ++ cur.toList.drop (L.length + (cw [cl, X]).length))).toArray) (.inl rfl)) (by rw [hW0]; exact hgc'))
  change Exit.then _ _ _ _ (w4.drew.setRow gc' (cur.toList.take L.length ++ (cw [cl, X] ++ cur.toList.drop (L.length + (cw [cl, X]).length))).toArray)
  generalize (w4.drew.setRow gc' (cur.toList.take L.length ++ (cw [cl, X] ++ cur.toList.drop (L.length + (cw [cl, X]).length))).toArray) = w5 at H5 Q5 As5 ⊢
  have hl5 : M.take L.length ++ ([cl, X] ++ M.drop (L.length + [cl, X].length)) = L ++ (cl :: X :: List.replicate n 0) := by
    rw [← HM.out]
    simp
  rw [hl5] at H5
  have f5 := cells5 Q5
  clear hl5 f2 Q1 Q2 As4 H4 c1' HC HS H1 Hsz Hn hlc hcm hlM hlc2 hX hcl hne hMl hMs HM HX
  rename_i hK
  refine hK _ _ ?_
  clear hK
  go_wp2_with fail
  refine (hwords_any L.length n cl kind sz 0 false w5 H5.out HCl.out HCI.out (by simp; omega)).mono ?_
  rintro e w6 ⟨A, c, rfl, hAn, hb6⟩
  have H6 := Lib.hid (H5.out.below hb6)
  have As6 := Lib.hid (As5.out.trans (Aside.of_below (gc := gc') hb6) (by rw [HW0.out]; exact hgc'))
  have HAn := Lib.hid hAn
  have hn9 : (n : Int) ≤ 1048576 := by omega
  clear hb6 f5 Q5 H5 As5 hAn
  go_wp2_with fail
  go_loopw [68] (fun i wr => ∃ k : Nat, k ≤ n ∧ i = .int .i64 k ∧ Hid (HeapAt wr base g gc' cap' gb gb2 size last (L ++ (cl :: X :: (List.replicate k fill ++ List.replicate (n - k) 0))) ws) ∧ Hid (Aside g gc gb2 w wr)) (fun i _ => n - (intOf i).toNat)
  case atStart => exact ⟨0, Nat.zero_le _, rfl, H6, As6⟩
  case round =>
    obtain ⟨k, hk, rfl, HR, HAs⟩ := hrel
    clear H6 As6
    by_cases hlt : k < n
    · obtain rfl := HAn.out (by omega)
      have hcell := HR.out.cell (k := L.length + 2 + k) (by simp; omega)
      have hfz := HR.out.cfree (L.length + 2 + k)
      obtain ⟨old, hold⟩ : ∃ u, wr.cell? ⟨gc', L.length + 2 + k, none⟩ = some u := ⟨_, hcell⟩
      have R1 := HR.out.put (L.length + 2 + k) fill HFill.out
      rw [fill_set L cl X fill n k hlt] at R1
      have R2 := Lib.hid R1
      have R3 := Lib.hid (HAs.out.trans (Aside.set_c (g := g) (gc := gc') (gb2 := gb2) wr (L.length + 2 + k) (.int .u64 (fill : Int))) (by rw [HW0.out]; exact hgc'))
      clear hcell R1 HR HAs
      go_wp2_with fail
      go_roundw
      case rel => exact ⟨k + 1, by omega, by simp, R2, R3⟩
      case measure => simp [intOf]; omega
    · have e : k = n := by omega
      subst e
      have HR2 := HR.out
      rw [Nat.sub_self, List.replicate_zero, List.append_nil] at HR2
      have H7 := Lib.hid HR2
      have c2' := H7.out.c2
      have hL1 : 1 ≤ L.length := by have := H.out.two; omega
      clear HR HR2
      go_wp2_with fail
      refine (set_flip gb gb2 size L.length true ws wr H7.out.bits (by omega) HFree.out).mono ?_
      rintro e w8 ⟨rfl, hB8, hbl8, hs8, hk8⟩
      have H8 := Lib.hid (H7.out.bit hB8 hk8)
      have As8 := Lib.hid (HAs.out.trans (show Aside g gc' gb2 wr w8 by
        have := hbl8 0 (Nat.zero_le _)
        exact ⟨this.os, this.tape, this.output, this.size, fun i _ _ _ h => hk8 i h⟩) (by rw [HW0.out]; exact hgc'))
      clear hB8 hbl8 hk8 HAs H7 c2'
      go_wp2_with fail
      refine (hpointer_any L.length w8 (by omega) (by omega)).mono ?_
      rintro e w9 ⟨rfl, rfl⟩
      go_wp2_with fail
      go_ret2
      exact ⟨gc', cap', rfl, by rw [HXX.out]; exact H8.out, by rw [HW0.out]; exact hgc', As8.out⟩
end Go.Proofs.YtahmljjjdoaahaaDoor.Fl
