/-
  Tag: an object's number of its own.
-/
import Derived.Test.YtahmljjjdoaahaaDoorPDocF
import Derived.Test.YtahmljjjdoaahaaDoorHeapE
import Derived.Test.YtahmljjjdoaahaaDoorLoad
namespace Go.Proofs.YtahmljjjdoaahaaDoor.Fl
open Go.RowKit

def headA (cl kind sz hash : Nat) (mark : Bool) : Value := .agg #[.int .u64 (cl : Int), .int .i64 (kind : Int), .int .i64 (sz : Int), .int .u32 (hash : Int), .bool mark]
theorem tagfn_any (cl kind sz hash n nb : Nat) (mark : Bool) (w : World) (hn : w.heap[nb]? = some (.cells #[.int .u32 (n : Int)] 29 (0, 0))) :
    Calls Tryd.prog 23 #[.agg #[.int .u64 (cl : Int), .int .i64 (kind : Int), .int .i64 (sz : Int), .int .u32 (hash : Int), .bool mark], .pointer (some ⟨nb, 0, none⟩)] w fun e w' => e = .returned (.agg #[.int .u64 (cl : Int), .int .i64 (kind : Int), .int .i64 (sz : Int), .int .u32 (n : Int), .bool mark]) ∧ Below w.heap.size w w' := by
  have hl := lt_of_block hn
  have f := one_cell hn
  go_enter Tryd.func23, Tryd.ntmps23
  go_wp2_with fail
  refine bodyPost_ret (v := .agg #[.int .u64 (cl : Int), .int .i64 (kind : Int), .int .i64 (sz : Int), .int .u32 (n : Int), .bool mark]) (by simp [results, Tryd.results23, go_sem]) rfl ⟨rfl, ?_⟩
  exact ((Below.refl _ _).alloc (Nat.le_refl _) _).alloc (by simp) _
section
variable {base g gc cap gb gb2 size last : Nat} {L ws : List Nat}
set_option maxRecDepth 100000 in
set_option maxHeartbeats 2000000 in
theorem change_tag (i cl kind sz hash n nb : Nat) (mark : Bool) (w : World) (h : HeapAt w base g gc cap gb gb2 size last L ws) (hi : HeadIn L i cl kind sz hash mark) (hb : bitAt ws i = true) (h1 : 1 ≤ i) (hl : i + 2 ≤ L.length)
    (hn : w.heap[nb]? = some (.cells #[.int .u32 (n : Int)] 29 (0, 0))) (hE : hErr cl kind sz n = 0) :
    Calls Tryd.prog 22 #[.pointer (some ⟨g, 0, none⟩), .int .u64 ((i : Int) * 2), .func (.func 23) #[] #[.pointer (some ⟨nb, 0, none⟩)]] w fun e w' => e = .returned (.int .i64 0) ∧ HeapAt w' base g gc cap gb gb2 size last (L.take i ++ ([cl, pk kind sz n mark] ++ L.drop (i + 2))) ws ∧ Aside g gc gb2 w w' := by
  have hob := object_yes i cl kind sz hash mark w h hi hb h1
  have htf := fun (w' : World) (hn' : w'.heap[nb]? = some (.cells #[.int .u32 (n : Int)] 29 (0, 0))) => tagfn_any cl kind sz hash n nb mark w' hn'
  have hp := fun (w' : World) => pack_obj cl kind sz n mark w' hE hi.lt
  have HX := Lib.hid (pk_lt (kind := kind) (size := sz) (hash := n) (mark := mark) (by have := hErr_ok hE; omega) (by have := hErr_ok hE; omega) (by have := hErr_ok hE; omega))
  have H := Lib.hid h
  have HN := Lib.hid hn
  have HCl := Lib.hid hi.lt
  clear h hi hb hn hE
  obtain ⟨X, hXX⟩ : ∃ X, pk kind sz n mark = X := ⟨_, rfl⟩
  rw [hXX] at hp HX ⊢
  clear hXX
  go_enter Tryd.func22, Tryd.ntmps22
  go_wp2_with fail
  refine hob.mono ?_
  rintro e w1 ⟨rfl, hb1⟩
  clear hob
  have HB1 := Lib.hid hb1
  have htf1 := htf (w1.alloc (.cells #[.int .u64 (cl : Int), .int .i64 (kind : Int), .int .i64 (sz : Int), .int .u32 (hash : Int), .bool mark] 52)) ((Below.heap_alloc w1 _ _ (Nat.lt_of_lt_of_le (lt_of_block HN.out) hb1.size)).trans ((hb1.block _ (lt_of_block HN.out)).trans HN.out))
  clear hb1 htf
  go_wp2_with fail
  refine htf1.mono ?_
  rintro e w2 ⟨rfl, hb2⟩
  have s2 := hb2.size
  simp at s2
  have HB2 := Lib.hid ((HB1.out.alloc HB1.out.size _).trans (hb2.mono (by simp; have := HB1.out.size; omega)))
  clear htf1 hb2 HB1
  go_wp2_with fail
  refine (hp _).mono ?_
  rintro e w3 ⟨rfl, hb3⟩
  have HB3 := Lib.hid (HB2.out.trans (hb3.mono HB2.out.size))
  have H3 := Lib.hid (H.out.below HB3.out)
  clear hb3 HB2 hp
  go_upto_region 6 with fail
  obtain ⟨w4, hw4⟩ : ∃ w4, w3.alloc (.cells #[.int .u64 (cl : Int), .int .u64 (X : Int)] 92) = w4 := ⟨_, rfl⟩
  have hb4 : Below w3.heap.size w3 w4 := by rw [← hw4]; exact (Below.refl _ _).alloc (Nat.le_refl _) _
  have Q2 : w4.heap[w3.heap.size]? = some (.cells #[.int .u64 (cl : Int), .int .u64 (X : Int)] 92 (0, 0)) := by rw [← hw4]; exact heap_alloc_new w3 _
  rw [hw4]
  clear hw4
  have H4 := Lib.hid (H3.out.below hb4)
  have HB4 := Lib.hid (HB3.out.trans (hb4.mono HB3.out.size))
  clear hb4 H3 HB3 s2
  generalize w3.heap.size = W3 at *
  have c1' := H4.out.c1
  obtain ⟨cur, hcur, hz1, hlc, hcm, hcs, hz2⟩ := H4.out.row
  clear hz1 hz2
  unfold maxLen at hcm
  have HC := Lib.hid hcur
  have f2 := two Q2
  have HS := Lib.hid (show ∀ j v, ([Value.int .u64 (cl : Int), .int .u64 (X : Int)] : List Value)[j]? = some v → w4.drew.cell? ((⟨W3, 0, none⟩ : Addr).add j) = some v by
    intro j v hj
    rcases j with _ | _ | j
    · simp at hj; subst hj; exact f2.1
    · simp at hj; subst hj; exact f2.2
    · simp at hj)
  have H1 := Lib.hid (show ∀ v ∈ [Value.int .u64 (cl : Int), .int .u64 (X : Int)], v.oneCell' = true by
    intro v hv; simp at hv; rcases hv with rfl | rfl <;> rfl)
  have Hsz := Lib.hid (show i + 2 ≤ cur.size by omega)
  have hlM : i ≤ L.length := by omega
  have hlc2 : ¬ (cap = i) := by omega
  have Hn := Lib.hid (show ([Value.int .u64 (cl : Int), .int .u64 (X : Int)] : List Value).length = Nat.min 2 (L.length - i) by
    have : (2 : Nat) = min 2 (L.length - i) := by omega
    exact this)
  have Hl := Lib.hid hl
  clear hcur hcs hl
  go_region_law (refine step_copy_row rfl (.tmp 35) (.tmp 36) 44 44 rfl 38 Tryd.underlying44 wsize gc i (L.length - i) (cap - i) ⟨W3, 0, none⟩ 2 2 rfl rfl cur 38 HC.out [.int .u64 (cl : Int), .int .u64 (X : Int)] Hn.out HS.out Hsz.out H1.out ?_)
  have hX := HX.out
  have hcl := HCl.out
  have H5 := Lib.hid (H4.out.drew.splice (cur := cur) HC.out i [cl, X] (by have := Hl.out; simp; omega) (by
    intro x hx; simp at hx; rcases hx with rfl | rfl; exact hcl; exact hX))
  have As5 := Lib.hid ((Aside.of_below HB4.out).trans ((Aside.of_below ((Below.refl w4.heap.size w4).drew)).trans (Aside.row (g := g) (gc := gc) (gb2 := gb2) w4.drew (cur.toList.take i ++ (cw [cl, X] ++ cur.toList.drop (i + (cw [cl, X]).length))).toArray) (.inl rfl)) (.inl rfl))
  change Exit.then _ _ _ _ (w4.drew.setRow gc (cur.toList.take i ++ (cw [cl, X] ++ cur.toList.drop (i + (cw [cl, X]).length))).toArray)
  generalize (w4.drew.setRow gc (cur.toList.take i ++ (cw [cl, X] ++ cur.toList.drop (i + (cw [cl, X]).length))).toArray) = w5 at H5 As5 ⊢
  clear f2 H4 HB4 c1' HC HS H1 Hsz Hn hlc hcm hlM hlc2 hX hcl HX Q2
  rename_i hK
  refine hK _ _ ?_
  clear hK
  go_wp2_with fail
  go_ret
  exact ⟨rfl, H5.out, As5.out⟩
/-- an object, the one at a place, has got the next number, or had one -/
def TagR (os : List Ob) (k last : Nat) (os' : List Ob) (last' : Nat) : Prop := (os' = os ∧ last' = last) ∨ (∃ hk : k < os.length, last' = last + 1 ∧ os' = os.set k { os[k] with hash := last + 1 })
theorem hErr_hash {cl kind sz hash n : Nat} (h : hErr cl kind sz hash = 0) (hn : n < 16777216) : hErr cl kind sz n = 0 := by
  obtain ⟨⟨h1, h2⟩, ⟨h3, h4⟩, _, h5, h6⟩ := hErr_ok h
  unfold hErr
  rw [if_neg (by omega), if_neg (by omega), if_neg (by omega), if_neg (by omega)]
theorem cells_hash {cl kind sz hash n : Int} (h : hErr cl kind sz hash = 0) (h' : hErr cl kind sz n = 0) : cellsI cl kind sz hash = cellsI cl kind sz n := by
  unfold cellsI
  rw [if_pos h, if_pos h']
set_option maxRecDepth 100000 in
set_option maxHeartbeats 2000000 in
theorem tag_any {os : List Ob} (k : Nat) (w : World) (h : ObsAt w base g gc cap gb gb2 size last os ws) (hk : k < os.length) (hla : last < 16777215) :
    Calls Tryd.prog 6 #[.pointer (some ⟨g, 0, none⟩), .int .u64 ((pos os k : Int) * 2)] w fun e w' => ∃ r : Int, e = .returned (.tuple #[.int .u32 r, .int .i64 0]) ∧ (∃ os' last', TagR os k last os' last' ∧ ObsAt w' base g gc cap gb gb2 size last' os' ws) ∧ Aside g gc gb2 w w' := by
  have hob := object_yes (pos os k) _ _ _ _ _ w h.heap (headIn h.ok hk) (h.bit hk) (by have := pos_two os k; omega)
  have hch := fun (nb : Nat) (w' : World) (h' : ObsAt w' base g gc cap gb gb2 size last os ws) (hn : w'.heap[nb]? = some (.cells #[.int .u32 ((last + 1 : Nat) : Int)] 29 (0, 0))) => change_tag (pos os k) _ _ _ _ (last + 1) nb _ w' h'.heap (headIn h'.ok hk) (h'.bit hk) (by have := pos_two os k; omega) (by have := pos_top os hk; omega) hn (hErr_hash (h'.okAt hk).ok (by omega))
  have hLof : (Lof os).take (pos os k) ++ ([os[k].cl, pk os[k].kind os[k].sz (last + 1) os[k].mark] ++ (Lof os).drop (pos os k + 2)) = Lof (os.set k { os[k] with hash := last + 1 }) := Lof_head { os[k] with hash := last + 1 } hk rfl
  have HSet : Hid (ObsAt w base g gc cap gb gb2 size last os ws → ∀ w' L, L = Lof (os.set k { os[k] with hash := last + 1 }) → HeapAt w' base g gc cap gb gb2 size (last + 1) L ws → ObsAt w' base g gc cap gb gb2 size (last + 1) (os.set k { os[k] with hash := last + 1 }) ws) := Lib.hid fun h0 w' L e hh => ⟨by rw [← e]; exact hh, h0.set.set hk rfl, fun o ho => by
    rcases List.mem_or_eq_of_mem_set ho with h1 | h1
    · exact h0.ok o h1
    · have ho' := h0.okAt hk
      have hE : hErr os[k].cl os[k].kind os[k].sz ((last + 1 : Nat) : Int) = 0 := hErr_hash ho'.ok (by omega)
      rw [h1]; exact ⟨hE, ho'.lt, (cells_hash ho'.ok hE).symm.trans ho'.len, ho'.xlt⟩⟩
  have H := Lib.hid h
  have Hl1 := Lib.hid hla
  obtain ⟨T, hT⟩ : ∃ T, { os[k] with hash := last + 1 } = T := ⟨_, rfl⟩
  rw [hT] at hLof HSet
  have hTR : TagR os k last (os.set k T) (last + 1) := .inr ⟨hk, rfl, by rw [hT]⟩
  have HTR := Lib.hid hTR
  have HLof := Lib.hid hLof
  clear h hla hLof hTR hT
  generalize os[k].cl = cl at *
  generalize os[k].kind = kind at *
  generalize os[k].sz = sz at *
  generalize os[k].mark = mark at *
  generalize os[k].hash = hash at *
  by_cases h0 : hash = 0
  · subst h0
    go_enter Tryd.func6, Tryd.ntmps6
    go_wp2_with fail
    refine hob.mono ?_
    rintro e w1 ⟨rfl, hb1⟩
    have HB1 := Lib.hid hb1
    clear hob hb1
    have c3 := (H.out.heap.below HB1.out).c3
    have hg1 : g < w1.heap.size := Nat.lt_of_lt_of_le H.out.heap.gl.1 HB1.out.size
    go_wp2_with fail
    have e1 : ((last : Int) + 1) % 4294967296 = ((last + 1 : Nat) : Int) := by have := Hl1.out; omega
    rw [e1]
    clear e1
    generalize hn1 : last + 1 = n1 at *
    obtain ⟨w2, hw2⟩ : ∃ w2, ((w1.alloc (.cells #[.int .u64 (cl : Int), .int .i64 (kind : Int), .int .i64 (sz : Int), .int .u32 0, .bool mark] 52)).alloc (.cells #[.int .u32 (n1 : Int)] 29)) = w2 := ⟨_, rfl⟩
    have hb2 : Below w1.heap.size w1 w2 := by rw [← hw2]; exact ((Below.refl _ _).alloc (Nat.le_refl _) _).alloc (by simp) _
    have hn2 : w2.heap[w1.heap.size + 1]? = some (.cells #[.int .u32 (n1 : Int)] 29 (0, 0)) := by
      rw [← hw2]
      have h1 := heap_alloc_new (w1.alloc (.cells #[.int .u64 (cl : Int), .int .i64 (kind : Int), .int .i64 (sz : Int), .int .u32 0, .bool mark] 52)) (.cells #[.int .u32 (n1 : Int)] 29)
      rw [show (w1.alloc (.cells #[.int .u64 (cl : Int), .int .i64 (kind : Int), .int .i64 (sz : Int), .int .u32 0, .bool mark] 52)).heap.size = w1.heap.size + 1 by simp] at h1
      exact h1
    rw [hw2]
    have HB2 := Lib.hid (HB1.out.trans (hb2.mono HB1.out.size))
    have H2 := Lib.hid (H.out.below HB2.out)
    have hch2 := hch _ w2 H2.out hn2
    have HN2 := Lib.hid hn2
    have hs2 := Lib.hid HB1.out.size
    clear hch hw2 hb2 hn2 c3 hg1 HB1
    refine hch2.mono ?_
    rintro e w3 ⟨rfl, h3, has⟩
    obtain ⟨curg, hcg, hbg, _⟩ := H2.out.heap.row
    obtain ⟨cu, hb2, _⟩ := H2.out.heap.bits.wd
    have hn3 : w3.heap[w1.heap.size + 1]? = some (.cells #[.int .u32 (n1 : Int)] 29 (0, 0)) := (has.block _ (lt_of_block HN2.out) (other_type HN2.out H2.out.heap.hd (by decide)) (other_type HN2.out hcg (by decide)) (other_type HN2.out hb2 (by decide))).trans HN2.out
    have hgn : w1.heap.size + 1 ≠ g := other_type HN2.out H2.out.heap.hd (by decide)
    have H3 := Lib.hid h3
    have As3 := Lib.hid ((Aside.of_below HB2.out).trans has (.inl rfl))
    have f3 := one_cell hn3
    have c3 := h3.c3
    have cf := h3.free 3
    obtain ⟨old, hold⟩ : ∃ u, w3.cell? ⟨g, 3, none⟩ = some u := ⟨_, c3⟩
    clear hch2 h3 has hcg hbg hb2 HN2 hn3 c3
    go_wp2_with fail
    go_ret2
    have h4 := H3.out.setLast n1
    exact ⟨_, rfl, ⟨_, n1, HTR.out, HSet.out H.out _ _ HLof.out h4⟩, As3.out.trans (Aside.set_g _ _ _) (.inl rfl)⟩
  · have h0' : ((hash : Int) != 0) = true := by simp; omega
    go_enter Tryd.func6, Tryd.ntmps6
    go_wp2_with fail
    refine hob.mono ?_
    rintro e w1 ⟨rfl, hb1⟩
    have HB1 := Lib.hid hb1
    clear hob hb1 hch
    go_wp2_with fail
    go_ret2
    exact ⟨_, rfl, ⟨os, last, .inl ⟨rfl, rfl⟩, (H.out.below HB1.out).below ((Below.refl _ _).alloc (Nat.le_refl _) _)⟩, Aside.of_below (HB1.out.alloc HB1.out.size _)⟩
end
end Go.Proofs.YtahmljjjdoaahaaDoor.Fl
