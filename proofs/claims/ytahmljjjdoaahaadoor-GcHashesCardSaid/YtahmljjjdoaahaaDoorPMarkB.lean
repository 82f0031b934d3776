/-
  What can be reached: one word.
-/
import Derived.Test.YtahmljjjdoaahaaDoorMark
namespace Go.Proofs.YtahmljjjdoaahaaDoor.Fl
open Go.RowKit

theorem Keep.bits {B : Nat} {w w' : World} {g g2 n : Nat} {bs : List Nat} (h : BitsAt w g g2 n bs) (hB : B ≤ g2) (hb : Below B w w') (hk : ∀ k, k ≠ g2 → w'.heap[k]? = w.heap[k]?) : Keep B w w' :=
  ⟨hb.os, hb.tape, hb.output, hb.size, fun k _ hc => hk k (by
    rintro rfl
    obtain ⟨cur, h0, _⟩ := h.wd
    rcases hc with hc | ⟨c, T', fr, h1, h2, h3, h4⟩
    · omega
    · rw [h0] at h1
      injection h1 with h1
      injection h1 with _ h1 _
      exact h3 h1.symm)⟩
theorem OwnH.keep {w w' : World} {B : Nat} {v : Value} {fs : List Nat} (h : OwnH w B v fs) (hk : ∀ (k : Nat) (cur : Array Value), w.heap[k]? = some (Obj.cells cur 38 (0, 0)) → w'.heap[k]? = w.heap[k]?) : OwnH w' B v fs := by
  refine ⟨h.1, ?_⟩
  rcases h.2 with h | ⟨g', cap', cur, e, hb', hg, hr⟩
  · exact .inl h
  · exact .inr ⟨g', cap', cur, e, hb', (hk _ _ hg).trans hg, hr⟩
section
variable {w w' : World} {base g gc cap gb gb2 size last LB lk sb sb2 : Nat} {L ws fs : List Nat} {k : Nat}
theorem own_other {w : World} {B : Nat} {v : Value} {fs : List Nat} (h : OwnH w B v fs) {b : Nat} {cur : Array Value} {T : TypeId} (hb : w.heap[b]? = some (.cells cur T (0, 0))) (hT : T ≠ 38 ∨ b < B) : some b ≠ v.ownBlock := by
  intro e
  rcases h.2 with ⟨rfl, _⟩ | ⟨g', cap', cur', rfl, hb', hg, hr⟩
  · simp [Value.ownBlock] at e
  · simp [Value.ownBlock] at e
    subst e
    rcases hT with hT | hT
    · rw [hg] at hb
      injection hb with hb
      injection hb with _ hb _
      exact hT hb.symm
    · omega
/-- behind the set of a bit: a word more -/
theorem LookAt.push {w1 w3 : World} {o : Obj} {v v' : Value} {x : Nat} {bs : List Nat} (H : HeapAt w1 base g gc cap gb gb2 size last L ws) (gs : g < LB ∧ gc < LB ∧ gb < LB ∧ gb2 < LB)
    (hd : w1.heap[lk]? = some (.cells #[.pointer (some ⟨g, 0, none⟩), .pointer (some ⟨sb, 0, none⟩), v, .int .i64 (k : Int)] 81 (0, 0))) (ho : OwnH w1 LB v fs)
    (hB : BitsAt w1 sb sb2 size bs) (hm : ∀ i, bitAt bs i = true ↔ 2 * i ∈ fs ++ [x]) (bl : LB ≤ lk ∧ LB ≤ sb ∧ LB ≤ sb2) (isp : ∀ p ∈ fs ++ [x], isP ws p) (nd : (fs ++ [x]).Nodup) (top : LB ≤ w1.heap.size)
    (hown : w3.ownsRow LB 38 1 v' (fs.length + 1) (cw fs ++ [.int .u64 (x : Int)])) (hg : (w1.alloc o).grownBy w3 v.ownBlock) :
    LookAt (w3.setCell ⟨lk, 2, none⟩ v') base g gc cap gb gb2 size last LB lk sb sb2 L ws (fs ++ [x]) k ∧ Keep LB w1 (w3.setCell ⟨lk, 2, none⟩ v') := by
  obtain ⟨l1, l2, l3, l4⟩ := H.gl
  have hb1 : ∀ b cur T, w1.heap[b]? = some (.cells cur T (0, 0)) → (T ≠ 38 ∨ b < LB) → w3.heap[b]? = w1.heap[b]? := by
    intro b cur T hb hT
    rw [hg.block b (by simp; have := lt_of_block hb; omega) (own_other ho hb hT), heap_alloc_old _ _ (lt_of_block hb)]
  have hlk := (hb1 lk _ _ hd (.inl (by decide))).trans hd
  have hset : ∀ b, b ≠ lk → (w3.setCell ⟨lk, 2, none⟩ v').heap[b]? = w3.heap[b]? := fun b hb => Below.heap_setCell _ _ _ _ hb
  obtain ⟨curc, hgc, _⟩ := H.row
  obtain ⟨cb0, hb0⟩ := H.bits.hd
  obtain ⟨cb2, hb2, _⟩ := H.bits.wd
  obtain ⟨sb0, hs0⟩ := hB.hd
  obtain ⟨sb2', hs2, _⟩ := hB.wd
  have n1 : sb ≠ lk := other_type hs0 hd (by decide)
  have n2 : sb2 ≠ lk := other_type hs2 hd (by decide)
  have hK : Keep LB w1 w3 := ⟨hg.os, hg.tape, hg.output, Nat.le_trans (by simp) hg.size, fun b hb hc => by
    rw [hg.block b (by simp; omega) ?_, heap_alloc_old _ _ hb]
    rcases hc with hc | ⟨c, T, fr, h1, _, _, h4⟩
    · intro e
      rcases ho.2 with ⟨rfl, _⟩ | ⟨g', cap', cur', rfl, hb', hg', hr⟩
      · simp [Value.ownBlock] at e
      · simp [Value.ownBlock] at e; omega
    · intro e
      rcases ho.2 with ⟨rfl, _⟩ | ⟨g', cap', cur', rfl, hb', hg', hr⟩
      · simp [Value.ownBlock] at e
      · simp [Value.ownBlock] at e
        subst e
        rw [hg'] at h1
        injection h1 with h1
        injection h1 with _ h1 _
        exact h4 h1.symm⟩
  refine ⟨⟨H.at_ ?_ ?_ ?_ ?_, gs, ⟨v', heap_setCell_same w3 lk 2 _ _ v' hlk, ?_⟩, ⟨bs, hB.at_ ?_ ?_, hm⟩, bl, isp, nd, ?_⟩, hK.trans (Keep.set w3 lk 2 v' bl.1 hlk (.inl rfl))⟩
  · rw [hset _ (by omega)]; exact hb1 _ _ _ H.hd (.inr gs.1)
  · rw [hset _ (by omega)]; exact hb1 _ _ _ hgc (.inr gs.2.1)
  · rw [hset _ (by omega)]; exact hb1 _ _ _ hb0 (.inr gs.2.2.1)
  · rw [hset _ (by omega)]; exact hb1 _ _ _ hb2 (.inr gs.2.2.2)
  · have : OwnH w3 LB v' (fs ++ [x]) := by
      unfold OwnH
      rw [List.length_append]
      have e : cw (fs ++ [x]) = cw fs ++ [.int .u64 (x : Int)] := by simp [cw]
      rw [e]; exact hown
    exact OwnH.keep this (fun b cur hb => hset b (other_type hb hlk (by decide)))
  · rw [hset _ n1]; exact hb1 _ _ _ hs0 (.inl (by decide))
  · rw [hset _ n2]; exact hb1 _ _ _ hs2 (.inl (by decide))
  · have := hK.size
    simp [World.setCell]; omega
def FindPost (w : World) (base g gc cap gb gb2 size last LB lk sb sb2 : Nat) (L ws fs' : List Nat) (k : Nat) (e : Ending) (w' : World) : Prop :=
  e = .returned (.int .i64 0) ∧ LookAt w' base g gc cap gb gb2 size last LB lk sb sb2 L ws fs' k ∧ Keep LB w w'
theorem find_none (x : Nat) (w : World) (h : LookAt w base g gc cap gb gb2 size last LB lk sb sb2 L ws fs k) (hx : x < 18446744073709551616) (h0 : x = 0 ∨ x % 2 = 1) :
    Calls Tryd.prog 63 #[.pointer (some ⟨lk, 0, none⟩), .int .u64 (x : Int)] w (FindPost w base g gc cap gb gb2 size last LB lk sb sb2 L ws fs k) := by
  have H := Lib.hid h
  clear h
  rcases h0 with rfl | h0
  · go_enter Tryd.func63, Tryd.ntmps63
    go_wp2_with fail
    go_ret
    exact ⟨rfl, H.out, Keep.refl _ _⟩
  · have hi := fun w' => is_odd (x : Int) w' (by omega) (by omega) (by omega)
    have hx0 : ((x : Int) == 0) = false := by simp; omega
    clear hx h0
    go_enter Tryd.func63, Tryd.ntmps63
    go_wp2_with (go_at_call 62; (with_reducible refine (hi _).mono ?_); rintro e w' ⟨rfl, rfl⟩)
    go_ret
    exact ⟨rfl, H.out, Keep.refl _ _⟩
set_option maxHeartbeats 1000000 in
theorem find_old (x : Nat) (w : World) (h : LookAt w base g gc cap gb gb2 size last LB lk sb sb2 L ws fs k) (hx : isP ws x) (hm : x ∈ fs) :
    Calls Tryd.prog 63 #[.pointer (some ⟨lk, 0, none⟩), .int .u64 (x : Int)] w (FindPost w base g gc cap gb gb2 size last LB lk sb sb2 L ws fs k) := by
  obtain ⟨i, rfl⟩ : ∃ i, x = 2 * i := ⟨x / 2, by have := hx.1; omega⟩
  have hx2 := hx.2.2.1
  have hx1 := hx.2.1
  have hbit := hx.2.2.2
  rw [show 2 * i / 2 = i by omega] at hbit
  obtain ⟨bs, hB, hmem⟩ := h.bits
  have hin : i < size := by have := hx.lt h.heap; omega
  have hsb := (hmem i).2 hm
  have hi := fun w' => is_even ((2 * i : Nat) : Int) w' (by omega) (by omega) (by omega)
  have hat := fun w' => at_in ((2 * i : Nat) : Int) w' (by omega) (by omega) (by omega)
  rw [show ((2 * i : Nat) : Int) / 2 = (i : Int) by omega] at hat
  have hhas := fun w' (hw' : HeapAt w' base g gc cap gb gb2 size last L ws) => hhas_any i w' hw' (by omega) (by omega)
  rw [hbit, show ((i : Int) * 2) = ((2 * i : Nat) : Int) by omega] at hhas
  have hset := set_same sb sb2 size i true bs w hB hin hsb
  have hx0 : (((2 * i : Nat) : Int) == 0) = false := by simp; omega
  obtain ⟨c0, c1, c3, cf, clt⟩ := h.c
  have H := Lib.hid h
  have HB := Lib.hid hB
  have HM := Lib.hid hmem
  clear h hx hbit hin hB hmem hm hx2 hx1 hsb
  generalize ((2 * i : Nat) : Int) = X at *
  go_enter Tryd.func63, Tryd.ntmps63
  go_wp2_with (first
    | (go_at_call 62; (with_reducible refine (hi _).mono ?_); rintro e w' ⟨rfl, rfl⟩)
    | (go_at_call 70; (with_reducible refine (hhas _ H.out.heap).mono ?_); rintro e w' ⟨rfl, rfl⟩)
    | (go_at_call 46; (with_reducible refine (hat _).mono ?_); rintro e w' ⟨rfl, rfl⟩))
  refine hset.mono ?_
  rintro e w1 ⟨rfl, hB1, hb1, hs1, hk1⟩
  have hK := Lib.hid (Keep.bits HB.out H.out.bl.2.2 (hb1 LB H.out.bl.2.2) hk1)
  have hL : Hid (LookAt w1 base g gc cap gb gb2 size last LB lk sb sb2 L ws fs k) := Lib.hid (by
    obtain ⟨v, h1, h2⟩ := H.out.hd
    obtain ⟨n1, n2, n3⟩ := H.out.ne
    obtain ⟨curc, hgc, _⟩ := H.out.heap.row
    have hg := H.out.gs
    have hbl := H.out.bl
    exact ⟨H.out.heap.at_ (hk1 _ (by omega)) (hk1 _ (by omega)) (hk1 _ (by omega)) (hk1 _ (by omega)), hg, ⟨v, (hk1 _ n2).trans h1, OwnH.keep h2 (fun b cur hb => hk1 b (by
      obtain ⟨cu, h5, _⟩ := HB.out.wd
      exact other_type hb h5 (by decide)))⟩, ⟨bs, hB1, HM.out⟩, hbl, H.out.isp, H.out.nd, by rw [hs1]; exact H.out.top⟩)
  clear hB1 hb1 hs1 hk1 hset
  go_wp2_with fail
  go_ret
  exact ⟨rfl, hL.out, hK.out⟩
theorem mem_push {bs fs : List Nat} {i : Nat} {ws' : List Nat} (hm : ∀ j, bitAt bs j = true ↔ 2 * j ∈ fs) (hl : i / 64 < bs.length) (hn : bitAt bs i = false) (he : ws' = flip bs i) (j : Nat) : bitAt ws' j = true ↔ 2 * j ∈ fs ++ [2 * i] := by
  subst he
  rw [bitAt_flip hl]
  by_cases h : j = i
  · subst h; simp [hn]
  · rw [if_neg h, hm j, List.mem_append, List.mem_singleton]
    constructor
    · exact .inl
    · rintro (h1 | h1)
      · exact h1
      · omega
set_option maxHeartbeats 2000000 in
theorem find_new (x : Nat) (w : World) (h : LookAt w base g gc cap gb gb2 size last LB lk sb sb2 L ws fs k) (hx : isP ws x) (hm : x ∉ fs) :
    Calls Tryd.prog 63 #[.pointer (some ⟨lk, 0, none⟩), .int .u64 (x : Int)] w (FindPost w base g gc cap gb gb2 size last LB lk sb sb2 L ws (fs ++ [x]) k) := by
  have hxx := hx
  obtain ⟨i, rfl⟩ : ∃ i, x = 2 * i := ⟨x / 2, by have := hx.1; omega⟩
  have hx2 := hx.2.2.1
  have hx1 := hx.2.1
  have hbit := hx.2.2.2
  rw [show 2 * i / 2 = i by omega] at hbit
  obtain ⟨bs, hB, hmem⟩ := h.bits
  have hin : i < size := by have := hx.lt h.heap; omega
  have hsb : bitAt bs i = false := by
    cases hc : bitAt bs i with
    | false => rfl
    | true => exact absurd ((hmem i).1 hc) hm
  have hi := fun w' => is_even ((2 * i : Nat) : Int) w' (by omega) (by omega) (by omega)
  have hat := fun w' => at_in ((2 * i : Nat) : Int) w' (by omega) (by omega) (by omega)
  rw [show ((2 * i : Nat) : Int) / 2 = (i : Int) by omega] at hat
  have hhas := fun w' (hw' : HeapAt w' base g gc cap gb gb2 size last L ws) => hhas_any i w' hw' (by omega) (by omega)
  rw [hbit, show ((i : Int) * 2) = ((2 * i : Nat) : Int) by omega] at hhas
  have hset := set_flip sb sb2 size i true bs w hB hin hsb
  have hx0 : (((2 * i : Nat) : Int) == 0) = false := by simp; omega
  have hMem := Lib.hid (mem_push hmem (hB.idx hin) hsb rfl)
  obtain ⟨c0, c1, c3, cf, clt⟩ := h.c
  have hlen : fs.length ≤ 16777216 := Nat.le_trans h.len h.heap.small
  have HLen := Lib.hid hlen
  have H := Lib.hid h
  have HB := Lib.hid hB
  have HX := Lib.hid (show (∀ p ∈ fs ++ [2 * i], isP ws p) ∧ (fs ++ [2 * i]).Nodup from ⟨by
    intro p hp
    rcases List.mem_append.1 hp with hp | hp
    · exact h.isp p hp
    · rw [List.mem_singleton] at hp; subst hp; exact hxx, by
    rw [List.nodup_append]
    refine ⟨h.nd, by simp, ?_⟩
    intro a ha b hb e
    rw [List.mem_singleton] at hb
    subst hb e
    exact hm ha⟩)
  clear h hx hxx hbit hin hB hmem hm hx2 hx1 hsb hlen
  generalize 2 * i = x at *
  go_enter Tryd.func63, Tryd.ntmps63
  go_wp2_with (first
    | (go_at_call 62; (with_reducible refine (hi _).mono ?_); rintro e w' ⟨rfl, rfl⟩)
    | (go_at_call 70; (with_reducible refine (hhas _ H.out.heap).mono ?_); rintro e w' ⟨rfl, rfl⟩)
    | (go_at_call 46; (with_reducible refine (hat _).mono ?_); rintro e w' ⟨rfl, rfl⟩))
  refine hset.mono ?_
  rintro e w1 ⟨rfl, hB1, hb1, hs1, hk1⟩
  have hK := Lib.hid (Keep.bits HB.out H.out.bl.2.2 (hb1 LB H.out.bl.2.2) hk1)
  obtain ⟨v, h1, h2⟩ := H.out.hd
  obtain ⟨n1, n2, n3⟩ := H.out.ne
  obtain ⟨curc, hgc, _⟩ := H.out.heap.row
  have hg := H.out.gs
  have hbl := H.out.bl
  have hH := Lib.hid (H.out.heap.at_ (hk1 _ (by omega)) (hk1 _ (by omega)) (hk1 _ (by omega)) (hk1 _ (by omega)))
  have hD := Lib.hid ((hk1 _ n2).trans h1)
  have hO := Lib.hid (OwnH.keep h2 (fun b cur hb => hk1 b (by
      obtain ⟨cu, h5, _⟩ := HB.out.wd
      exact other_type hb h5 (by decide))))
  have hB1' := Lib.hid hB1
  have hT := Lib.hid (show LB ≤ w1.heap.size by rw [hs1]; exact H.out.top)
  have k2 : w1.cell? ⟨lk, 2, none⟩ = some v := cell_of_row _ _ _ _ _ _ hD.out
  have kl : lk < w1.heap.size := lt_of_block hD.out
  clear hB1 hb1 hs1 hk1 hset h1 h2 n1 n2 n3 hgc hbl hg c0 c1 c3 cf clt hi hat hhas hx0
  obtain ⟨i0, hi0, hz0, hz1, hz2⟩ := info_parts wordinfo
  go_wp2_with (at_builtin; refine wpList_append_own _ rfl _ _ 44 rfl LB 38 i0 (.int .u64 0) 1 8 Tryd.underlying44 hi0 hz0 hz1 hz2 rfl (by decide) _ _ _ rfl (World.ownsRow.alloc hO.out _) ⟨w1.heap.size, 0, none⟩ 1 1 [.int .u64 (x : Int)] rfl rfl ?c1 ?c2 ?c3 ?c4 ?c5 ?_)
  case c1 => exact lone_cell w1 _ _
  case c2 => intro u hu; simp at hu; subst hu; rfl
  case c3 => have := HLen.out; unfold maxLen; omega
  case c4 => have := HLen.out; omega
  case c5 => have := hT.out; simp; omega
  intro v' w3 hown hgrow _
  obtain ⟨gv, cv, rfl⟩ : ∃ gv cv, v' = .slice (some ⟨gv, 0, none⟩) (fs.length + 1) cv := by
    rcases hown.2 with ⟨_, e⟩ | ⟨g', cap', cur, e, _⟩
    · omega
    · exact ⟨g', cap', e⟩
  have hf := Lib.hid (LookAt.push hH.out H.out.gs hD.out hO.out hB1'.out hMem.out H.out.bl HX.out.1 HX.out.2 hT.out hown hgrow)
  have hd3 : w3.heap[lk]? = _ := (hgrow.block lk (by simp; omega) (own_other hO.out hD.out (.inl (by decide)))).trans ((heap_alloc_old _ _ kl).trans hD.out)
  have q2 : w3.cell? ⟨lk, 2, none⟩ = some v := cell_of_row _ _ _ _ _ _ hd3
  have qf : w3.frozen? ⟨lk, 2, none⟩ = false := frozen_of_row _ _ _ _ _ hd3
  clear hd3 hown hgrow k2 kl hi0 hz0 hz1 hz2
  go_wp2_with fail
  go_ret
  exact ⟨rfl, hf.out.1, hK.out.trans hf.out.2⟩
theorem find_any {fs' : List Nat} (x : Nat) (w : World) (h : LookAt w base g gc cap gb gb2 size last LB lk sb sb2 L ws fs k) (hx : x < 18446744073709551616) (hf : find1 ws fs x = some fs') :
    Calls Tryd.prog 63 #[.pointer (some ⟨lk, 0, none⟩), .int .u64 (x : Int)] w (FindPost w base g gc cap gb gb2 size last LB lk sb sb2 L ws fs' k) := by
  unfold find1 at hf
  split at hf
  · injection hf with hf; subst hf; exact find_none x w h hx (by assumption)
  · split at hf
    · split at hf
      · injection hf with hf; subst hf; exact find_old x w h (by assumption) (by assumption)
      · injection hf with hf; subst hf; exact find_new x w h (by assumption) (by assumption)
    · cases hf
end
end Go.Proofs.YtahmljjjdoaahaaDoor.Fl

/-
  What can be reached: what an object leads to.
-/
namespace Go.Proofs.YtahmljjjdoaahaaDoor.Fl
open Go.RowKit

/-- what is found with some words more -/
def findL (ws : List Nat) : List Nat → List Nat → Option (List Nat)
  | fs, [] => some fs
  | fs, x :: t => (find1 ws fs x).bind fun fs' => findL ws fs' t
theorem findL_cons {ws fs fs' : List Nat} {x : Nat} {t : List Nat} (h : findL ws fs (x :: t) = some fs') : ∃ f1, find1 ws fs x = some f1 ∧ findL ws f1 t = some fs' := by
  rw [findL] at h
  cases hc : find1 ws fs x with
  | none => rw [hc] at h; cases h
  | some f1 => rw [hc] at h; exact ⟨f1, rfl, h⟩
/-- an object: its head, and what it leads to -/
structure ObAt (L ws : List Nat) (p cl kind sz hash : Nat) (mark : Bool) (xs : List Nat) : Prop where
  isp : isP ws p
  hi : HeadIn L (p / 2) cl kind sz hash mark
  body : kind ≠ 2 → p / 2 + 2 + sz ≤ L.length ∧ xs = (L.drop (p / 2 + 2)).take sz
  raw : kind = 2 → xs = []
section
variable {w w' : World} {base g gc cap gb gb2 size last LB lk sb sb2 : Nat} {L ws fs : List Nat} {k : Nat}
set_option maxHeartbeats 2000000 in
theorem ask_any {fs' xs : List Nat} (p cl kind sz hash : Nat) (mark : Bool) (w : World) (h : LookAt w base g gc cap gb gb2 size last LB lk sb sb2 L ws fs k) (hp : ObAt L ws p cl kind sz hash mark xs) (hf : findL ws fs (cl :: xs) = some fs') :
    Calls Tryd.prog 64 #[.pointer (some ⟨lk, 0, none⟩), .int .u64 (p : Int)] w (FindPost w base g gc cap gb gb2 size last LB lk sb sb2 L ws fs' k) := by
  obtain ⟨f1, hf1, hfx⟩ := findL_cons hf
  obtain ⟨i, rfl⟩ : ∃ i, p = 2 * i := ⟨p / 2, by have := hp.isp.1; omega⟩
  have hi := hp.hi
  have hpx := hp.body
  have hpr := hp.raw
  have hbit := hp.isp.2.2.2
  have hi1 : 1 ≤ i := by have := hp.isp.2.1; omega
  rw [show 2 * i / 2 = i by omega] at hi hpx hbit
  have hhead := fun w' (hw' : HeapAt w' base g gc cap gb gb2 size last L ws) => head_yes i cl kind sz hash mark w' hw' hi hbit hi1
  have hget := fun (j x : Nat) w' (hw' : HeapAt w' base g gc cap gb gb2 size last L ws) (hk : kind ≠ 2) (hs : j < sz) hx => get_yes i j cl kind sz hash x mark w' hw' hi hbit hi1 hk hs hx
  rw [show ((i : Int) * 2) = ((2 * i : Nat) : Int) by omega] at hhead hget
  have HCl := Lib.hid hi.lt
  have HSz := Lib.hid (hErr_ok hi.ok).2.1
  have H := Lib.hid h
  obtain ⟨c0, c1, c3, cf, clt⟩ := h.c
  have HX := Lib.hid (And.intro hpx hpr)
  have HF1 := Lib.hid hf1
  have HFx := Lib.hid hfx
  clear hpx hpr hf1 hfx hf hp h hi hbit
  generalize 2 * i = p at *
  go_enter Tryd.func64, Tryd.ntmps64
  go_wp2_with fail
  refine (hhead _ H.out.heap).mono ?_
  rintro e w1 ⟨rfl, hb1⟩
  have H1 := Lib.hid ((H.out.keep hb1).keep ((Below.refl _ _).alloc (Nat.le_refl _) (.cells #[.int .u64 (cl : Int), .int .i64 (kind : Int), .int .i64 (sz : Int), .int .u32 (hash : Int), .bool mark] 52)))
  have K1 := Lib.hid ((Keep.of_below (B := LB) hb1).trans (Keep.of_below ((Below.refl _ _).alloc (Nat.le_refl _) (.cells #[.int .u64 (cl : Int), .int .i64 (kind : Int), .int .i64 (sz : Int), .int .u32 (hash : Int), .bool mark] 52))))
  have l1 := hb1.size
  clear hb1 hhead c0 c1 c3 cf
  go_wp2_with fail
  refine (find_any cl _ H1.out HCl.out HF1.out).mono ?_
  rintro e w2 ⟨rfl, hL2, hK2⟩
  have B2 : w2.heap[w1.heap.size]? = some (.cells #[.int .u64 (cl : Int), .int .i64 (kind : Int), .int .i64 (sz : Int), .int .u32 (hash : Int), .bool mark] 52 (0, 0)) := by
    rw [hK2.block _ (by simp) (.inr ⟨_, _, _, heap_alloc_new w1 _, by decide, by decide, by decide⟩)]; exact heap_alloc_new w1 _
  have H2 := Lib.hid hL2
  have K2 := Lib.hid (K1.out.trans hK2)
  have f2 := cells5 B2
  clear hL2 hK2 K1 H1 B2
  by_cases hk2 : kind = 2
  · have hk3 : ((kind : Int) == 2) = true := by simp; omega
    have e : f1 = fs' := by
      have := HFx.out
      rw [HX.out.2 hk2] at this
      simpa [findL] using this
    subst e
    clear hk2
    go_wp2_with fail
    go_ret
    exact ⟨rfl, H2.out, K2.out⟩
  · have hk3 : ((kind : Int) == 2) = false := by simp; omega
    have HK2 := Lib.hid hk2
    clear hk2
    go_wp2_with fail
    go_loopw [35] (fun v wr => ∃ (j : Nat) (fj : List Nat), j ≤ sz ∧ v = .int .i64 j ∧ Hid (findL ws fj (xs.drop j) = some fs') ∧ Hid (LookAt wr base g gc cap gb gb2 size last LB lk sb sb2 L ws fj k) ∧ Hid (Keep LB w wr)) (fun v _ => sz - (intOf v).toNat)
    case atStart => exact ⟨0, f1, Nat.zero_le _, rfl, Lib.hid (by rw [List.drop_zero]; exact HFx.out), H2, K2⟩
    case round =>
      obtain ⟨j, fj, hj, rfl, HFj, HR, HK⟩ := hrel
      clear H2 K2 HFx
      have hsz := HSz.out
      by_cases hlt : j < sz
      · obtain ⟨d0, d1, d3, df, dlt⟩ := HR.out.c
        obtain ⟨hx0, hx1⟩ := HX.out.1 HK2.out
        have hxl : j < xs.length := by rw [hx1, List.length_take, List.length_drop]; omega
        have hxj : L[i + 2 + j]? = some xs[j] := by
          have : xs[j]? = L[i + 2 + j]? := by
            conv => lhs; rw [hx1]
            rw [List.getElem?_take, if_pos hlt, List.getElem?_drop]
          rw [← this, List.getElem?_eq_getElem hxl]
        have HF := HFj.out
        rw [List.drop_eq_getElem_cons hxl] at HF
        obtain ⟨f2', hf2, hf2x⟩ := findL_cons HF
        have hxb : xs[j] < 18446744073709551616 := HR.out.heap.lt _ (List.mem_of_getElem? hxj)
        have hg := hget j xs[j]
        obtain ⟨x, hxe⟩ : ∃ x, xs[j] = x := ⟨_, rfl⟩
        rw [hxe] at hg hxj hf2 hxb
        have HB := Lib.hid hxb
        have HF2 := Lib.hid hf2
        have HF2x := Lib.hid hf2x
        clear hx0 hx1 hxl HF hf2 hf2x hxb hxe HFj
        go_wp2_with fail
        refine (hg _ HR.out.heap HK2.out hlt hxj).mono ?_
        rintro e w3 ⟨rfl, hb3⟩
        have H3 := Lib.hid (HR.out.keep hb3)
        have K3 := Lib.hid (HK.out.trans (Keep.of_below hb3))
        clear hb3 hg HR HK hxj d0 d1 d3 df dlt
        go_wp2_with fail
        refine (find_any x _ H3.out HB.out HF2.out).mono ?_
        rintro e w4 ⟨rfl, hL4, hK4⟩
        have H4 := Lib.hid hL4
        have K4 := Lib.hid (K3.out.trans hK4)
        clear hL4 hK4 K3 H3
        go_wp2_with fail
        go_roundw
        case rel => exact ⟨j + 1, f2', by omega, by simp, HF2x, H4, K4⟩
        case measure => simp [intOf]; omega
      · have e : j = sz := by omega
        subst e
        have e : fj = fs' := by
          have h1 := HFj.out
          obtain ⟨hx0, hx1⟩ := HX.out.1 HK2.out
          rw [List.drop_of_length_le (by rw [hx1, List.length_take]; omega)] at h1
          simpa [findL] using h1
        subst e
        go_wp2_with fail
        go_ret
        exact ⟨rfl, HR.out, HK.out⟩
end
end Go.Proofs.YtahmljjjdoaahaaDoor.Fl
