/-
  Events: the text of events, read.
-/
import Derived.Test.YtlmelfakmllinaaEvS
namespace Go.Proofs.Ytlmelfakmllinaa.Fl
open Go.RowKit

def No10 (l : List UInt8) : Prop := ∀ c ∈ l, c ≠ 10
theorem No10.app {l m : List UInt8} (h : No10 l) (k : No10 m) : No10 (l ++ m) := fun c hc => (List.mem_append.1 hc).elim (h c) (k c)
theorem hexB_no10 : ∀ n : Fin 16, hexB n.val ≠ 10 := by decide +kernel
theorem quoB_no10 (c : UInt8) : No10 (quoB c) := by
  unfold quoB
  split
  · rename_i h
    intro d hd
    obtain rfl := List.mem_singleton.1 hd
    rintro rfl
    revert h
    decide
  · intro d hd
    have hc := c.toNat_lt
    simp only [List.mem_cons, List.not_mem_nil, or_false] at hd
    rcases hd with rfl | rfl | rfl
    · decide
    · exact hexB_no10 ⟨c.toNat / 16, by omega⟩
    · exact hexB_no10 ⟨c.toNat % 16, by omega⟩
theorem quoL_no10 (l : List UInt8) : No10 (quoL l) := by
  intro c hc
  unfold quoL at hc
  rcases List.mem_cons.1 hc with rfl | hc
  · decide
  · rcases List.mem_append.1 hc with hc | hc
    · obtain ⟨x, _, hx⟩ := List.mem_flatMap.1 hc
      exact quoB_no10 x c hx
    · obtain rfl := List.mem_singleton.1 hc
      decide
theorem lineE_no10 (x : Ev) : No10 (lineE x) := by
  unfold lineE
  split
  · exact No10.app (by unfold No10; decide) (quoL_no10 _)
  · split
    · exact No10.app (by unfold No10; decide) (quoL_no10 _)
    · split <;> (unfold No10; decide)
theorem index10 (l r : List UInt8) (h : No10 l) : Lib.index (l ++ 10 :: r) [10] = (l.length : Int) := by
  induction l with
  | nil => simp [Lib.index, List.isPrefixOf]
  | cons b l ih =>
    have hb : b ≠ 10 := h b (List.mem_cons_self ..)
    have hi := ih fun c hc => h c (List.mem_cons_of_mem _ hc)
    show Lib.index (b :: (l ++ 10 :: r)) [10] = _
    rw [Lib.index, hi]
    have h1 : ([10] : List UInt8).isPrefixOf (b :: (l ++ 10 :: r)) = false := by
      simp [List.isPrefixOf]
      exact fun e => hb e.symm
    rw [if_neg (by rw [h1]; decide), if_neg (by simp)]
    simp
theorem cut10 (l r : List UInt8) (h : No10 l) : Lib.cut (l ++ 10 :: r) [10] = (l, r, true) := by
  unfold Lib.cut
  rw [index10 l r h, if_pos (by omega)]
  simp
def MaxE (w : World) : Prop := ∃ m, w.cell? ⟨0, 0, none⟩ = some (.int .i64 m)
theorem cutLine (x : Ev) (r : List UInt8) (w : World) (hm : MaxE w) (hl : (lineE x ++ 10 :: r).length ≤ 1000000) :
    Calls Try.prog 26 #[.string ⟨(lineE x ++ 10 :: r).toArray⟩, .string ⟨#[10]⟩] w fun e w' => e = .returned (.tuple #[.string ⟨(lineE x).toArray⟩, .string ⟨r.toArray⟩, .bool true]) ∧ Below w.heap.size w w' := by
  obtain ⟨m, hm⟩ := hm
  refine (Try.strings_Cut ⟨(lineE x ++ 10 :: r).toArray⟩ ⟨#[10]⟩ m w (by show (lineE x ++ 10 :: r).toArray.size < _; rw [List.size_toArray]; omega) hm).mono fun e w' h => ?_
  obtain ⟨h1, n, h2⟩ := h
  rw [show (⟨(lineE x ++ 10 :: r).toArray⟩ : ByteArray).data.toList = lineE x ++ 10 :: r from rfl, show (⟨#[10]⟩ : ByteArray).data.toList = [10] from rfl, cut10 _ _ (lineE_no10 x)] at h1
  exact ⟨h1, by rw [h2]; exact ⟨rfl, rfl, rfl, Nat.le_refl _, fun _ _ => rfl⟩⟩
theorem textE_cons (x : Ev) (l : List Ev) : textE (x :: l) = lineE x ++ 10 :: textE l := by
  show (lineE x ++ [10]) ++ textE l = _
  simp
def ParsePost (l : List Ev) (w : World) (e : Ending) (w' : World) : Prop :=
  (l.all plainK = true ∧ ∃ es A c, e = .returned (.tuple #[.slice A es.length c, .int .i64 0, .int .i64 0]) ∧ evs es = l.map canE ∧ OwnV w' w.heap.size (.slice A es.length c) es ∧ OwnBs w' w.heap.size es ∧ Below w.heap.size w w') ∨
  (l.all plainK = false ∧ ∃ n : Nat, e = .returned (.tuple #[.slice none 0 0, .int .i64 (n : Int), .int .i64 3]) ∧ Below w.heap.size w w')
set_option maxRecDepth 100000 in
set_option maxHeartbeats 8000000 in
theorem parse_text (l : List Ev) (w : World) (hs : ∀ x ∈ l, smallE x) (hl : l.length ≤ 40) (hm : ∀ w', Below w.heap.size w w' → MaxE w') :
    Calls Try.prog 15 #[.string ⟨(textE l).toArray⟩] w (ParsePost l w) := by
  have HS := Lib.hid hs
  have HM := Lib.hid hm
  clear hs hm
  go_enter Try.func15, Try.ntmps15
  go_wp2_with fail
  go_loopw [0, 5, 6] (fun s u v wr => ∃ (k : Nat) (es : List EE) (A : Option Addr) (c : Nat), k ≤ l.length ∧ s = .string ⟨(textE (l.drop k)).toArray⟩ ∧ u = .slice A es.length c ∧ v = .int .i64 (k : Int) ∧ Hid (evs es = (l.take k).map canE ∧ (l.take k).all plainK = true) ∧ Hid (OwnV wr w.heap.size (.slice A es.length c) es) ∧ Hid (OwnBs wr w.heap.size es) ∧ Hid (Below w.heap.size w wr)) (fun _ _ v _ => l.length - (intOf v).toNat)
  case atStart => exact ⟨0, [], none, 0, Nat.zero_le _, rfl, rfl, rfl, Lib.hid ⟨rfl, rfl⟩, Lib.hid (World.ownsRow_nil _ _ _ _), Lib.hid (fun x hx => by cases hx), Lib.hid (Below.refl _ _)⟩
  case round =>
    obtain ⟨k, es, A, c, hk, rfl, rfl, rfl, HE, HV, HBs, HB⟩ := hrel
    have hsz := HB.out.size
    by_cases hlt : k < l.length
    case neg =>
      have hk' : k = l.length := by omega
      have HE2 := Lib.hid (show evs es = l.map canE ∧ l.all plainK = true by have := HE.out; rwa [List.take_of_length_le (by omega)] at this)
      rw [show textE (l.drop k) = [] by rw [List.drop_eq_nil_of_le (by omega)]; rfl]
      clear hk'
      go_wp2_with fail
      go_ret3
      exact .inl ⟨HE2.out.2, es, A, c, rfl, HE2.out.1, HV.out, HBs.out, HB.out⟩
    have HT : Hid (l.take (k + 1) = l.take k ++ [l[k]]) := Lib.hid (List.take_succ_eq_append_getElem hlt)
    have HSx := Lib.hid (HS.out _ (List.getElem_mem hlt))
    have hel : es.length ≤ 1000000 := by
      have := congrArg List.length HE.out.1
      simp only [evs, List.length_map, List.length_take] at this
      omega
    have HAll := Lib.hid (show plainK l[k] = false → l.all plainK = false from fun h => by
      rw [List.all_eq_false]
      exact ⟨l[k], List.getElem_mem hlt, by rw [h]; decide⟩)
    have hlen : (textE (l.drop k)).length ≤ 1000000 := by
      have h1 := textE_len (l := l.drop k) fun x hx => HS.out x (List.mem_of_mem_drop hx)
      rw [List.length_drop] at h1
      omega
    have hd : l.drop k = l[k] :: l.drop (k + 1) := List.drop_eq_getElem_cons hlt
    rw [hd, textE_cons] at hlen
    rw [hd, textE_cons]
    clear hd
    generalize l[k] = x at *
    obtain ⟨R, hR⟩ : ∃ R, textE (l.drop (k + 1)) = R := ⟨_, rfl⟩
    rw [hR] at hlen ⊢
    have HR := Lib.hid hR
    clear hR
    have hct := cutLine x R wr (HM.out wr HB.out) hlen
    have hne : (lineE x ++ 10 :: R).isEmpty = false := by cases lineE x <;> rfl
    have HRd := Lib.hid (fun (w' : World) => read_line x w' HSx.out)
    clear hlen
    obtain ⟨p9, hp9⟩ : ∃ p, plainK x = p := ⟨_, rfl⟩
    rw [hp9] at HRd
    obtain ⟨y, hy⟩ : ∃ y, canE x = y := ⟨_, rfl⟩
    rw [hy] at HRd
    have HY := Lib.hid hy
    clear hy
    go_upto_region 7 with (first
      | (go_at_call 26; refine hct.mono ?_; rintro e w2 ⟨rfl, hb2⟩; have HB2 := Lib.hid (HB.out.trans (hb2.mono hsz)); have HV2 := Lib.hid (HV.out.below hb2); have HBs2 := Lib.hid (HBs.out.below hb2); have hrd := HRd.out w2; clear hct hb2)
      | (go_at_call 27; refine hrd.mono ?_; rintro e w3 ⟨A3, c3, rfl, ho, hb3⟩; have HO3 := Lib.hid ho; have HB3 := Lib.hid (HB2.out.trans (hb3.mono HB2.out.size)); have HV3 := Lib.hid (HV2.out.below hb3); have HBs3 := Lib.hid (HBs2.out.below hb3); clear hrd ho hb3))
    have hw4 := heap_alloc_new w3 (.cells #[.int .i64 y.kd, .slice A3 y.bs.length c3, .string ⟨y.nm.toArray⟩] 45)
    have hb4 : Below w3.heap.size w3 (w3.alloc (.cells #[.int .i64 y.kd, .slice A3 y.bs.length c3, .string ⟨y.nm.toArray⟩] 45)) := (Below.refl _ _).alloc (Nat.le_refl _) _
    have HO4 := Lib.hid ((OwnE_below HO3.out hb4).wideE (base' := w.heap.size) HB2.out.size)
    have HB4 := Lib.hid (HB3.out.trans (hb4.mono HB3.out.size))
    have HV4 := Lib.hid (HV3.out.below hb4)
    have HBs4 := Lib.hid (HBs3.out.below hb4)
    clear hb4
    generalize w3.alloc (.cells #[.int .i64 y.kd, .slice A3 y.bs.length c3, .string ⟨y.nm.toArray⟩] 45) = w4 at *
    obtain ⟨f0, f1, f2, f3⟩ := cells3E hw4
    have l4 := lt_of_blk hw4
    cases p9 with
    | false =>
      have HA2 := HAll.out hp9
      clear hp9 HAll
      go_wp2_with fail
      go_ret3
      exact .inr ⟨HA2, k, rfl, HB4.out⟩
    | true =>
      have hne5 := ee_one1 w4 (y, (A3, c3))
      have hb5 : Below w4.heap.size w4 (w4.alloc (.cells (ee3 (y, (A3, c3))).toArray 45)) := (Below.refl _ _).alloc (Nat.le_refl _) _
      have hov := HV4.out.below hb5
      have HBs5 := Lib.hid ((HBs4.out.snoc (x := (y, (A3, c3))) HO4.out).below hb5)
      have HB5 := Lib.hid (HB4.out.trans (hb5.mono HB4.out.size))
      have hs5 := HB5.out.size
      have HP := Lib.hid hp9
      clear hb5 hp9 HAll
      go_wp2_with (at_builtin; refine wpList_append_ev (base := w.heap.size) (v := .slice A es.length c) (xs := es) (news := [(y, (A3, c3))]) rfl _ _ rfl rfl rfl hov hne5 (fun h => by cases h) hel (by simp) hs5 ?_; intro A6 t6 c6 w6 HT6 HV6 HK6)
      go_roundw
      case rel => exact ⟨k + 1, t6, A6, c6, by omega, by rw [HR.out], rfl, by simp, Lib.hid ⟨by rw [HT6.out, HT.out, evs_snoc, List.map_append, HE.out.1, ← HY.out]; rfl, by rw [HT.out, List.all_append, HE.out.2]; simp [HP.out]⟩, HV6, by rw [HT6.out]; exact Lib.hid (HBs5.out.grown hov HK6.out.2), Lib.hid (HB5.out.trans HK6.out.1)⟩
      case measure => simp [intOf]; omega
end Go.Proofs.Ytlmelfakmllinaa.Fl
