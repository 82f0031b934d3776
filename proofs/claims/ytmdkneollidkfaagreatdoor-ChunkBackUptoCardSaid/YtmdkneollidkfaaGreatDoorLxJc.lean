/-
  LexJoins where both texts are read.
-/
import Derived.Test.YtmdkneollidkfaaGreatDoorLxZ
import Derived.Test.YtmdkneollidkfaaGreatDoorLxWr
namespace Go.Proofs.YtmdkneollidkfaaGreatDoor.Fl
open Go.RowKit

theorem rd_initK {w : World} {B : Nat} {A : Option Addr} {x : List Tok} {e : Tok} (h : Rd w B A (ct (x ++ [e]))) : Rd w B A (ct x) := by
  have h2 := h.take_ (ct x).length
  rwa [ct_append, List.take_left'  rfl] at h2
theorem ownK_none {w : World} {base n c : Nat} {A : Option Addr} {xs : List Tok} (h : OwnK w base (.slice A n c) xs) : (A = none → xs.length = 0) ∧ xs.length ≤ c := by
  rcases h.2 with ⟨e1, e2⟩ | ⟨g, cap, cur, e1, _, _, hc, _⟩
  · exact ⟨fun _ => e2, by omega⟩
  · injection e1 with e1 _ e3
    subst e1 e3
    exact ⟨fun h => (by cases h), hc⟩
theorem rdK_at {w : World} {B : Nat} {A : Option Addr} {xs : List Tok} (h : Rd w B A (ct xs)) {k : Nat} (hk : k < xs.length) {kd : Nat} {wd : List UInt8} {nm : Int} {at_ : Nat} (hx : xs[k] = (kd, wd, nm, at_)) :
    ∃ b off, A = some ⟨b, off, none⟩ ∧ b < B ∧ w.cell? ⟨b, off + k * 4, none⟩ = some (.int .i64 (kd : Int)) ∧ w.cell? ⟨b, off + k * 4 + 1, none⟩ = some (.string ⟨wd.toArray⟩) ∧ w.cell? ⟨b, off + k * 4 + 2, none⟩ = some (.int .i64 nm) ∧ w.cell? ⟨b, off + k * 4 + 3, none⟩ = some (.int .i64 (at_ : Int)) := by
  rcases h with h | ⟨b, off, rfl, hb, hc⟩
  · have := congrArg List.length h
    rw [ct_len] at this
    simp only [List.length_nil] at this
    omega
  · obtain ⟨h0, h1, h2, h3⟩ := ct_at xs k hk
    rw [hx] at h0 h1 h2 h3
    rw [Nat.mul_comm k 4]
    exact ⟨b, off, rfl, hb, hc _ _ h0, hc _ _ h1, hc _ _ h2, hc _ _ h3⟩
theorem allW_at {s : ByteArray} {p : Nat} {l : List Tok} (hp : p ≤ s.size) (h : allW s p = .inl l) : ∀ x ∈ l, p ≤ x.2.2.2 ∧ x.2.2.2 ≤ s.size := by
  obtain ⟨m, hm⟩ : ∃ m, s.size - p = m := ⟨_, rfl⟩
  induction m using Nat.strongRecOn generalizing p l with
  | _ m ih =>
    cases ht : tokR s p with
    | inr e => rw [allW_no ht] at h; cases h
    | inl x =>
      obtain ⟨k, t, n, q, p'⟩ := x
      have hin := tokR_in hp ht
      obtain ⟨hg1, hg2⟩ := tokR_go hp ht
      by_cases hk : k = 0
      · subst hk
        rw [allW_end ht] at h
        injection h with h
        intro x hx
        rw [← h, List.mem_singleton] at hx
        subst hx
        exact ⟨hg1, by show q ≤ _; omega⟩
      · have h1 := allW_go hp hin ht hk []
        rw [preW_nil, h] at h1
        cases hy : allW s p' with
        | inr e => rw [hy] at h1; cases h1.2
        | inl l' =>
          rw [hy] at h1
          have h2 := ih (s.size - p') (by have := h1.1; omega) hin hy rfl
          have h3 : l = (k, t, n, q) :: l' := by
            have := h1.2
            injection this
          intro x hx
          rw [h3] at hx
          rcases List.mem_cons.1 hx with rfl | hx
          · exact ⟨hg1, by show q ≤ _; omega⟩
          · have := h2 x hx
            have := h1.1
            exact ⟨by omega, by omega⟩
/-- the two lists' tokens at a place -/
theorem joins_at {x y : List Tok} {d k : Nat} (hk : k < (x ++ y).length) :
    ∃ kd wd nm at_, ∃ h : k < (x ++ y.map (atK d)).length, (x ++ y)[k] = (kd, wd, nm, at_) ∧ ((k < x.length ∧ (x ++ y.map (atK d))[k] = (kd, wd, nm, at_)) ∨ (x.length ≤ k ∧ (kd, wd, nm, at_) ∈ y ∧ (x ++ y.map (atK d))[k] = (kd, wd, nm, d + at_))) := by
  have h2 : k < (x ++ y.map (atK d)).length := by simpa using hk
  obtain ⟨kd, wd, nm, at_, he⟩ : ∃ kd wd nm at_, (x ++ y)[k] = (kd, wd, nm, at_) := ⟨_, _, _, _, rfl⟩
  refine ⟨kd, wd, nm, at_, h2, he, ?_⟩
  by_cases hx : k < x.length
  · left
    refine ⟨hx, ?_⟩
    rw [List.getElem_append_left hx] at he ⊢
    exact he
  · right
    rw [List.getElem_append_right (by omega)] at he
    refine ⟨by omega, he ▸ List.getElem_mem _, ?_⟩
    rw [List.getElem_append_right (by omega), List.getElem_map, he]
    rfl
theorem eq_same (k n q : Int) (t : ByteArray) (w : World) : (Op.equalIn 10000 143 (.agg #[.int .i64 k, .string t, .int .i64 n, .int .i64 q]) (.agg #[.int .i64 k, .string t, .int .i64 n, .int .i64 q])).run Tryz.prog w = .ok true w := by
  rw [eq_tok]; simp
end Go.Proofs.YtmdkneollidkfaaGreatDoor.Fl

/-
  The lexer: Spell of what is a token.
-/
namespace Go.Proofs.YtmdkneollidkfaaGreatDoor.Fl
open Go.RowKit

theorem TokV.bounds {k : Nat} {wd : List UInt8} {n : Int} (h : TokV k wd n) : k ≤ 16 ∧ wd.length ≤ 4096 ∧ InR n ∧ (writL k wd n).length ≤ 8196 := by
  have hd := dbl_len wd
  have hq : (quoL wd).length = (dbl wd).length + 2 := by simp [quoL]
  rcases h with ⟨rfl, rfl, hl, _⟩ | ⟨rfl, rfl, hl, _⟩ | ⟨rfl, rfl, hr, _⟩ | ⟨rfl, rfl, hl⟩ | ⟨rfl, rfl, hl⟩ | ⟨rfl, rfl, ho⟩ | ⟨hk, rfl, rfl⟩
  · exact ⟨by omega, by omega, by unfold InR; omega, by show wd.length ≤ _; omega⟩
  · exact ⟨by omega, by omega, by unfold InR; omega, by show wd.length ≤ _; omega⟩
  · refine ⟨by omega, by simp, hr, ?_⟩
    show (Lib.itoa n).length ≤ _
    unfold InR at hr
    have := itoa_len n (by omega) (by omega)
    omega
  · exact ⟨by omega, by omega, by unfold InR; omega, by show (quoL wd).length ≤ _; omega⟩
  · refine ⟨by omega, by omega, by unfold InR; omega, ?_⟩
    show (if arityL (mkB wd) < 0 then 35 :: quoL wd else 35 :: wd).length ≤ _
    split <;> simp only [List.length_cons] <;> omega
  · obtain ⟨c, r, rfl, hr, _⟩ := op_list ho
    have hl : (c :: r).length ≤ 2 := by rcases hr with rfl | ⟨d, rfl⟩ <;> simp
    exact ⟨by omega, by omega, by unfold InR; omega, by show (c :: r).length ≤ _; omega⟩
  · refine ⟨by omega, by simp, by unfold InR; omega, ?_⟩
    rcases hk with rfl | ⟨h7, h16⟩
    · decide
    · unfold writL
      repeat' split
      all_goals first
        | omega
        | simp
set_option maxRecDepth 100000 in
set_option maxHeartbeats 4000000 in
theorem spell_any (k : Nat) (t : ByteArray) (n : Int) (q : Nat) (w : World) (hv : TokV k (sb t) n) (hm : MaxAt w) (he : EnvL w) :
    Calls Tryz.prog 158 #[.agg #[.int .i64 (k : Int), .string t, .int .i64 n, .int .i64 (q : Int)]] w fun e w' => e = .returned (.tuple #[.string (mkB (writL k (sb t) n)), .int .i64 0]) ∧ Below w.heap.size w w' := by
  obtain ⟨hk, hl, hr, hwl⟩ := hv.bounds
  unfold InR at hr
  have hb1 : Below w.heap.size w (w.alloc (.cells #[.int .i64 (k : Int), .string t, .int .i64 n, .int .i64 (q : Int)] 143)) := (Below.refl _ _).alloc (Nat.le_refl _) _
  have hw1 := heap_alloc_new w (.cells #[.int .i64 (k : Int), .string t, .int .i64 n, .int .i64 (q : Int)] 143)
  have hwr := written_any k t n (q : Int) _ hk (by rw [sb_size]; omega) (by omega) (by omega) (hm.below hb1) (he.below hb1)
  have hbk := spell_back hv
  rw [← mkB_size] at hwl hbk
  obtain ⟨W, hW⟩ : ∃ W, mkB (writL k (sb t) n) = W := ⟨_, rfl⟩
  rw [hW] at hwr hwl hbk ⊢
  have hnx : ∀ w', Below w.heap.size w w' → Calls Tryz.prog 118 #[.string W, .int .i64 0] w' (NextPost W (tokR W 0) w') := fun w' hb => next_any W 0 0 w' (by omega) (by omega) (hm.below hb) (fun w2 h2 => he.below (hb.trans (h2.mono hb.size)))
  rw [hbk] at hnx
  have HNx := Lib.hid hnx
  have HB1 := Lib.hid hb1
  have f1 := cells4L hw1
  have l1 : w.heap.size < (w.alloc (.cells #[.int .i64 (k : Int), .string t, .int .i64 n, .int .i64 (q : Int)] 143)).heap.size := lt_of_blk hw1
  have hes := fun w => eq_same k n q t w
  clear hv hm he hW hbk hnx hb1 hwl hr hl hk
  go_enter Tryz.func158, Tryz.ntmps158
  go_wp2_with fail
  refine hwr.mono ?_
  rintro e w2 ⟨rfl, hb2⟩
  have HB2 := Lib.hid (HB1.out.trans (hb2.mono HB1.out.size))
  have hw2 := (hb2.block _ l1).trans hw1
  have l2 := Nat.lt_of_lt_of_le l1 hb2.size
  clear hwr hb2 f1 l1 hw1 HB1
  go_wp2_with fail
  refine (HNx.out _ HB2.out).mono ?_
  rintro e w3 ⟨hb3, (⟨k3, t3, n3, q3, p3, tb, hr3, hq3, hp3, htb, rfl⟩ | ⟨n3, q3, hr3, _⟩)⟩
  case inr => cases hr3
  simp only [Sum.inl.injEq, Prod.mk.injEq] at hr3
  obtain ⟨rfl, rfl, rfl, rfl, rfl⟩ := hr3
  have htt : tb = t := sb_inj htb
  subst htt
  have HB3 := Lib.hid (HB2.out.trans (hb3.mono HB2.out.size))
  have hw3 := (hb3.block _ l2).trans hw2
  have l3 := Nat.lt_of_lt_of_le l2 hb3.size
  have hb4 : Below w3.heap.size w3 (w3.alloc (.cells #[.int .i64 (k : Int), .string tb, .int .i64 n, .int .i64 (q : Int)] 143)) := (Below.refl _ _).alloc (Nat.le_refl _) _
  have HB4 := Lib.hid (HB3.out.trans (hb4.mono HB3.out.size))
  have f3 := cells4L hw3
  have f4 := cells4L ((hb4.block _ l3).trans hw3)
  have f5 := cells4L (heap_alloc_new w3 (.cells #[.int .i64 (k : Int), .string tb, .int .i64 n, .int .i64 (q : Int)] 143))
  have l5 : w3.heap.size < (w3.alloc (.cells #[.int .i64 (k : Int), .string tb, .int .i64 n, .int .i64 (q : Int)] 143)).heap.size := lt_of_blk (heap_alloc_new w3 _)
  have l4 := Nat.lt_of_lt_of_le l3 hb4.size
  unfold tokV
  clear HNx HB2 HB3 hb3 hb4 hw2 hw3 l2 htb hp3 hq3
  go_wp2_with fail
  go_ret2
  exact ⟨rfl, HB4.out⟩
end Go.Proofs.YtmdkneollidkfaaGreatDoor.Fl

/-
  The lexer: where the tokens of a text stand.
-/
namespace Go.Proofs.YtmdkneollidkfaaGreatDoor.Fl
open Go.RowKit

def plainT (x : Tok) : Bool := x.1 != 3 && x.1 != 5
/-- the place behind a token's text; or behind its first byte -/
def lastT (x : Tok) : Nat := if plainT x = true then x.2.2.2 + (writL x.1 x.2.1 x.2.2.1).length else x.2.2.2 + 1
def PlA (s : ByteArray) : Nat → List Tok → Prop
  | _, [] => True
  | p, x :: l => TokV x.1 x.2.1 x.2.2.1 ∧ p ≤ x.2.2.2 ∧ x.2.2.2 ≤ s.size ∧ (x.1 = 0 ↔ l = []) ∧ (plainT x = true → midL s x.2.2.2 (x.2.2.2 + (writL x.1 x.2.1 x.2.2.1).length) = writL x.1 x.2.1 x.2.2.1 ∧ x.2.2.2 + (writL x.1 x.2.1 x.2.2.1).length ≤ s.size) ∧ PlA s (lastT x) l
theorem tokR_at {s : ByteArray} {p k q p' : Nat} {wd : List UInt8} {n : Int} (hp : p ≤ s.size) (h : tokR s p = .inl (k, wd, n, q, p')) : q ≤ s.size ∧ tokAt s q = .inl (k, wd, n, q, p') := by
  unfold tokR at h
  split at h
  · next q' hq' =>
    have hq := skipA_end _ _ _ _ hq'
    rw [List.length_drop, sb_len] at hq
    have h2 := (tokAt_lt (show q' ≤ s.size by omega) h).1
    subst h2
    exact ⟨by omega, h⟩
  · cases h
theorem allW_ne {s : ByteArray} {p : Nat} (hp : p ≤ s.size) : allW s p ≠ .inl [] := by
  intro h
  cases ht : tokR s p with
  | inr e => rw [allW_no ht] at h; cases h
  | inl x =>
    obtain ⟨k, t, n, q, p'⟩ := x
    by_cases hk : k = 0
    · subst hk
      rw [allW_end ht] at h
      cases h
    · have h1 := (allW_go hp (tokR_in hp ht) ht hk []).2
      rw [preW_nil, h] at h1
      cases hy : allW s p' with
      | inr e => rw [hy] at h1; cases h1
      | inl l' => rw [hy] at h1; cases h1
theorem allW_pl {s : ByteArray} {p p0 : Nat} {l : List Tok} (hp : p ≤ s.size) (h : allW s p = .inl l) (h0 : p0 ≤ p) : PlA s p0 l := by
  obtain ⟨m, hm⟩ : ∃ m, s.size - p = m := ⟨_, rfl⟩
  induction m using Nat.strongRecOn generalizing p p0 l with
  | _ m ih =>
    cases ht : tokR s p with
    | inr e => rw [allW_no ht] at h; cases h
    | inl x =>
      obtain ⟨k, t, n, q, p'⟩ := x
      have hin := tokR_in hp ht
      obtain ⟨hg1, hg2⟩ := tokR_go hp ht
      obtain ⟨hqs, hta⟩ := tokR_at hp ht
      obtain ⟨hv, hmid⟩ := tokAt_v hqs hta
      have hqp : q ≤ p' := by omega
      have hpl : plainT (k, t, n, q) = true → midL s q (q + (writL k t n).length) = writL k t n ∧ q + (writL k t n).length = p' := by
        intro hpt
        unfold plainT at hpt
        simp only [Bool.and_eq_true, bne_iff_ne] at hpt
        have hm2 := hmid hpt.1 hpt.2
        have hl2 := congrArg List.length hm2
        rw [midL_len s hin] at hl2
        have e : q + (writL k t n).length = p' := by omega
        rw [e]
        exact ⟨hm2, rfl⟩
      by_cases hk : k = 0
      · have hl : l = [(k, t, n, q)] := by
          subst hk
          rw [allW_end ht] at h
          injection h with h
          exact h.symm
        subst hl
        exact ⟨hv, by show p0 ≤ q; omega, hqs, ⟨fun _ => rfl, fun _ => hk⟩, fun hpt => ⟨(hpl hpt).1, by have h8 := (hpl hpt).2; show q + (writL k t n).length ≤ s.size; omega⟩, trivial⟩
      · have h1 := allW_go hp hin ht hk []
        rw [preW_nil, h] at h1
        cases hy : allW s p' with
        | inr e => rw [hy] at h1; cases h1.2
        | inl l' =>
          rw [hy] at h1
          have h3 : l = (k, t, n, q) :: l' := by
            have := h1.2
            injection this
          subst h3
          refine ⟨hv, by show p0 ≤ q; omega, hqs, ⟨fun e => absurd e hk, fun e => ?_⟩, fun hpt => ⟨(hpl hpt).1, by have h8 := (hpl hpt).2; show q + (writL k t n).length ≤ s.size; omega⟩, ih (s.size - p') (by have := h1.1; omega) hin hy ?_ rfl⟩
          · subst e; exact absurd hy (allW_ne hin)
          · unfold lastT
            split
            · next hpt => exact Nat.le_of_eq (hpl hpt).2
            · show q + 1 ≤ p'; omega
end Go.Proofs.YtmdkneollidkfaaGreatDoor.Fl

/-
  The lexer: a token as it is written, with a blank or a note behind it.
-/
namespace Go.Proofs.YtmdkneollidkfaaGreatDoor.Fl
open Go.RowKit

/-- nothing, or a blank, or a note -/
def Sep (R : List UInt8) : Prop := ∀ c r, R = c :: r → c = 32 ∨ c = 34
theorem Sep.part {R : List UInt8} (h : Sep R) : ∀ c r, R = c :: r → partN c.toNat = false := fun c r e => by rcases h c r e with rfl | rfl <;> rfl
theorem Sep.dig {R : List UInt8} (h : Sep R) : ∀ c r, R = c :: r → digitN c.toNat = false := fun c r e => by rcases h c r e with rfl | rfl <;> rfl
theorem Sep.look {R : List UInt8} (h : Sep R) {s : ByteArray} {j : Nat} (hd : (sb s).drop j = R) : lookB s j = 0 ∨ lookB s j = 32 ∨ lookB s j = 34 := by
  cases R with
  | nil => exact .inl (look_nil hd)
  | cons c r => rw [look_cons hd]; rcases h c r rfl with rfl | rfl; exact .inr (.inl rfl); exact .inr (.inr rfl)
theorem named_nameS {s : ByteArray} {j : Nat} {nm R : List UInt8} (h : (sb s).drop j = nm ++ R) (hn : partA nm = true) (hR : Sep R) : namedR s j = (1, j + nm.length) := by
  have h1 := run_app (f := partN) h hn hR.part
  have h2 := hR.look (drop_more h)
  unfold namedR
  rw [h1, if_neg (fun h => by have := h.1; omega)]
theorem quoA_dblS : ∀ (l R : List UInt8) (p : Nat), (∀ c r, R = c :: r → c ≠ 39) → quoA p (dbl l ++ 39 :: R) = some (p + (dbl l).length + 1)
  | [], R, p, hR => by
    cases R with
    | nil => rfl
    | cons c r =>
      show quoA p (39 :: c :: r) = _
      rw [quoA, if_pos rfl, if_neg (hR c r rfl)]
      rfl
  | c :: l, R, p, hR => by
    rw [dbl]
    split
    · rw [List.cons_append, List.cons_append, quoA, if_pos rfl, if_pos rfl, quoA_dblS l R (p + 2) hR]
      simp only [List.length_cons, Option.some.injEq]; omega
    · next hc =>
      have h := quoA_dblS l R (p + 1) hR
      rw [List.cons_append]
      cases hd : dbl l ++ 39 :: R with
      | nil => simp at hd
      | cons d t =>
        rw [hd] at h
        rw [quoA, if_neg hc, h]
        simp only [List.length_cons, Option.some.injEq]; omega
theorem quo_readS {s : ByteArray} {j : Nat} {wd R : List UInt8} (h : (sb s).drop j = dbl wd ++ 39 :: R) (hR : Sep R) : quoA j ((sb s).drop j) = some (j + (dbl wd).length + 1) ∧ unq (midL s j (j + (dbl wd).length + 1 - 1)) = wd := by
  refine ⟨by rw [h, quoA_dblS wd R j (fun c r e => by rcases hR c r e with rfl | rfl <;> decide)], ?_⟩
  rw [Nat.add_sub_cancel, mid_drop, h, List.take_left' rfl, unq_dbl]
theorem opc_sep : isOpc 32 = false ∧ isOpc 34 = false := by decide +kernel
theorem op_readS {s : ByteArray} {j : Nat} {l R : List UInt8} (h : (sb s).drop j = l ++ R) (hj : j ≤ s.size) (hR : Sep R) (ho : isOpL l = true) : opF s j 2 = l.length := by
  have hl := congrArg List.length h
  rw [List.length_drop, sb_len, List.length_append] at hl
  obtain ⟨c, r, rfl, hr, _⟩ := op_list ho
  rcases hr with rfl | ⟨d, rfl⟩
  · simp only [List.length_cons, List.length_nil] at hl ⊢
    rw [opF, if_neg, opF, if_pos]
    · refine ⟨by omega, ?_⟩
      rw [mid_drop, h]; exact ho
    · rintro ⟨h1, h2⟩
      rw [mid_drop, h] at h2
      cases R with
      | nil => simp at hl; omega
      | cons d t =>
        have hd : isOpc d = false := by rcases hR d t rfl with rfl | rfl; exact opc_sep.1; exact opc_sep.2
        have e : (([c] ++ d :: t).take (1 + 1)) = [c, d] := rfl
        rw [e] at h2
        unfold isOpL at h2
        rw [List.all_cons, List.all_cons, hd] at h2
        simp at h2
  · simp only [List.length_cons, List.length_nil] at hl ⊢
    rw [opF, if_pos]
    refine ⟨by omega, ?_⟩
    rw [mid_drop, h]; exact ho
theorem op_none {s : ByteArray} {j c : Nat} {r : List UInt8} (h : (sb s).drop j = UInt8.ofNat c :: r) (hc : isOpc (UInt8.ofNat c) = false) (h2 : UInt8.ofNat c ≠ 124) : opF s j 2 = 0 := by
  have hno : ∀ k, isOpL (midL s j (j + (k + 1))) = false := by
    intro k
    rw [mid_drop, h, List.take_succ_cons]
    unfold isOpL
    rw [List.all_cons, hc]
    simp [h2]
  rw [opF, if_neg (by rw [hno 1]; simp), opF, if_neg (by rw [hno 0]; simp)]
  rfl
theorem join_keyS {s : ByteArray} {R : List UInt8} (hR : Sep R) : ∀ (ps : List (List UInt8)) (j : Nat), (sb s).drop j = keyT ps ++ R → (∀ p ∈ ps, nameL p = true) → j ≤ s.size → joinW s j = j + (keyT ps).length
  | [], j, h, _, hj => by
    rw [joinW, dif_neg]
    · rfl
    · rintro ⟨⟨h1, _⟩, _⟩
      have := hR.look (j := j) (s := s) h
      rcases this with e | e | e <;> rw [e] at h1 <;> cases h1
  | p :: ps, j, h, hp, hj => by
    obtain ⟨h1, c, r, rfl, h2⟩ := name_parts (hp p (List.mem_cons_self ..))
    rw [keyT, List.append_assoc, List.cons_append] at h
    have h3 : (sb s).drop (j + (c :: r).length + 1) = keyT ps ++ R := by
      rw [← List.drop_drop, drop_more h]; rfl
    have h4 : ∀ d t, keyT ps ++ R = d :: t → d.toNat ≠ 61 := by
      intro d t e
      cases ps with
      | nil => rcases hR d t e with rfl | rfl <;> decide
      | cons p' ps' =>
        obtain ⟨_, c', r', rfl, h5⟩ := name_parts (hp p' (List.mem_cons_of_mem _ (List.mem_cons_self ..)))
        rw [keyT] at e
        injection e with e _
        rw [← e]
        exact letter_not61 h5
    have h5 := named_key h h1 h4
    have hl := congrArg List.length h
    simp only [List.length_drop, sb_len, List.length_append, List.length_cons] at hl
    rw [joinW, dif_pos, h5]
    · rw [join_keyS hR ps _ h3 (fun q hq => hp q (List.mem_cons_of_mem _ hq)) (by simp only [List.length_cons]; omega)]
      simp only [keyT, List.length_append, List.length_cons]; omega
    · rw [h5]
      exact ⟨⟨by rw [look_cons h]; exact h2, rfl⟩, by simp; omega, by simp; omega⟩
theorem sizeS {s : ByteArray} {q : Nat} {c : UInt8} {l : List UInt8} (h : (sb s).drop q = c :: l) : q < s.size := by
  have hl := congrArg List.length h
  rw [List.length_drop, sb_len, List.length_cons] at hl
  omega
end Go.Proofs.YtmdkneollidkfaaGreatDoor.Fl

/-
  The lexer: a token as it is written, with a blank or a note behind it, is read as it.
-/
namespace Go.Proofs.YtmdkneollidkfaaGreatDoor.Fl
open Go.RowKit

/-- what begins a token's text -/
def Beg (W : List UInt8) : Prop := ∃ c r, W = c :: r ∧ blankN c.toNat = false ∧ c ≠ 34
theorem midS {s : ByteArray} {q : Nat} {W R : List UInt8} (h : (sb s).drop q = W ++ R) : midL s q (q + W.length) = W := by
  rw [mid_drop, h, List.take_left' rfl]
theorem at_name {s : ByteArray} {q : Nat} {wd R : List UInt8} (h : (sb s).drop q = wd ++ R) (hR : Sep R) (hl : wd.length ≤ 64) (hp : partA wd = true) {c : UInt8} {r : List UInt8} (hc : wd = c :: r) (hlc : letterN c.toNat = true) : tokAt s q = .inl (1, wd, 0, q, q + wd.length) := by
  have hn := named_nameS h hp hR
  have hcs : (sb s).drop q = c :: (r ++ R) := by rw [h, hc]; rfl
  unfold tokAt
  rw [if_neg (by have := sizeS hcs; omega), look_cons hcs, if_pos hlc, hn, midS h, if_neg (by omega)]
theorem at_key {s : ByteArray} {q : Nat} {nm R : List UInt8} (h : (sb s).drop q = (nm ++ [58]) ++ R) (hR : Sep R) (hl : nm.length + 1 ≤ 64) (hp : partA nm = true) {c : UInt8} {r : List UInt8} (hc : nm = c :: r) (hlc : letterN c.toNat = true) : tokAt s q = .inl (2, nm ++ [58], 0, q, q + (nm ++ [58]).length) := by
  have h2 : (sb s).drop q = nm ++ 58 :: R := by rw [h, List.append_assoc]; rfl
  have hn := named_key h2 hp (fun c r e => by rcases hR c r e with rfl | rfl <;> decide)
  have hcs : (sb s).drop q = c :: (r ++ 58 :: R) := by rw [h2, hc]; rfl
  have hm := midS h
  have hll : (nm ++ [58]).length = nm.length + 1 := by simp
  rw [hll, ← Nat.add_assoc] at hm
  unfold tokAt
  rw [if_neg (by have := sizeS hcs; omega), look_cons hcs, if_pos hlc, hn, hm, if_neg (by omega), hll]
  rfl
theorem itoa_dig {n : Int} (hr : InR n) (h0 : 0 ≤ n) : ((Lib.itoa n).all fun c => digitN c.toNat) = true ∧ ∃ c r, Lib.itoa n = c :: r := by
  obtain ⟨hf, hsp⟩ := itoa_form n
  have hneg : isNeg (Lib.itoa n) = false := by rw [(itoa_parts n).2]; simp; omega
  have hbody : body (Lib.itoa n) = Lib.itoa n := by
    unfold isNeg at hneg
    unfold body
    rw [if_neg]
    intro h
    rw [h] at hneg
    simp at hneg
  unfold form at hf
  rw [hbody, Bool.and_eq_true] at hf
  refine ⟨hf.1, ?_⟩
  cases h : Lib.itoa n with
  | nil => rw [h] at hf; simp at hf
  | cons c r => exact ⟨c, r, rfl⟩
theorem at_int {s : ByteArray} {q : Nat} {n : Int} {R : List UInt8} (h : (sb s).drop q = Lib.itoa n ++ R) (hR : Sep R) (hr : InR n) (h0 : 0 ≤ n) : tokAt s q = .inl (3, [], n, q, q + (Lib.itoa n).length) := by
  obtain ⟨hpv, hpe⟩ := itoa_pv hr
  obtain ⟨hall, c, r, hc⟩ := itoa_dig hr h0
  have hrun := run_app (f := digitN) h hall hR.dig
  have hcs : (sb s).drop q = c :: (r ++ R) := by rw [h, hc]; rfl
  have hdc : digitN c.toNat = true := by rw [hc, List.all_cons, Bool.and_eq_true] at hall; exact hall.1
  unfold tokAt
  rw [if_neg (by have := sizeS hcs; omega), look_cons hcs, if_neg (by rw [(digit_f hdc).1]; simp), if_pos hdc, hrun, midS h, if_pos hpe, hpv]
theorem at_text {s : ByteArray} {q : Nat} {wd R : List UInt8} (h : (sb s).drop q = quoL wd ++ R) (hR : Sep R) (hl : wd.length ≤ 4096) : tokAt s q = .inl (4, wd, 0, q, q + (quoL wd).length) := by
  have hcs : (sb s).drop q = 39 :: (dbl wd ++ 39 :: R) := by rw [h, quoL, List.cons_append, List.append_assoc]; rfl
  have hd1 : (sb s).drop (q + 1) = dbl wd ++ 39 :: R := by rw [← List.drop_drop, hcs]; rfl
  obtain ⟨hq1, hq2⟩ := quo_readS hd1 hR
  have hlk : lookB s q = 39 := look_cons hcs
  have hll : (quoL wd).length = (dbl wd).length + 2 := by simp [quoL]
  unfold tokAt
  rw [if_neg (by have := sizeS hcs; omega), hlk, if_neg (by decide), if_neg (by decide), if_neg (by decide), if_pos rfl, hq1]
  simp only [hq2]
  rw [if_neg (by omega), hll, show q + 1 + (dbl wd).length + 1 = q + ((dbl wd).length + 2) by omega]
theorem at_op {s : ByteArray} {q : Nat} {wd R : List UInt8} (h : (sb s).drop q = wd ++ R) (hR : Sep R) (ho : isOpL wd = true) (hq : q ≤ s.size) : tokAt s q = .inl (6, wd, 0, q, q + wd.length) := by
  have hr := op_readS h hq hR ho
  obtain ⟨c, r, hc, _, h1, h2, h3, h4, h5, h6, h7, h8⟩ := op_list ho
  have hcs : (sb s).drop q = c :: (r ++ R) := by rw [h, hc]; rfl
  unfold tokAt
  rw [if_neg (by have := sizeS hcs; omega), look_cons hcs, if_neg (by rw [h1]; simp), if_neg (by rw [h2]; simp), if_neg h6, if_neg h7, if_neg h5]
  unfold markR
  rw [hr, if_pos (by rw [hc]; simp), midS h]
  rfl
theorem at_hash {s : ByteArray} {q : Nat} {l : List UInt8} (h : (sb s).drop q = 35 :: l) : tokAt s q = ofKw q (hashR s q) := by
  have hlk : lookB s q = 35 := look_cons h
  unfold tokAt
  rw [if_neg (by have := sizeS h; omega), hlk, if_neg (by decide), if_neg (by decide), if_neg (by decide), if_neg (by decide), if_pos rfl]
theorem at_quoted {s : ByteArray} {q : Nat} {wd R : List UInt8} (h : (sb s).drop q = 35 :: quoL wd ++ R) (hR : Sep R) (hl : wd.length ≤ 64) : tokAt s q = .inl (5, wd, 0, q, q + (35 :: quoL wd).length) := by
  have hcs : (sb s).drop q = 35 :: 39 :: (dbl wd ++ 39 :: R) := by rw [h, quoL, List.cons_append, List.cons_append, List.append_assoc]; rfl
  rw [at_hash hcs]
  have hd1 : (sb s).drop (q + 1) = 39 :: (dbl wd ++ 39 :: R) := by rw [← List.drop_drop, hcs]; rfl
  have hd2 : (sb s).drop (q + 2) = dbl wd ++ 39 :: R := by rw [← List.drop_drop, hcs]; rfl
  obtain ⟨hq1, hq2⟩ := quo_readS hd2 hR
  have hlk : lookB s (q + 1) = 39 := look_cons hd1
  have hll : (35 :: quoL wd).length = (dbl wd).length + 3 := by simp [quoL]
  unfold hashR
  rw [hlk, if_neg (by decide), if_pos rfl, hq1]
  simp only [hq2]
  rw [if_neg (by omega), hll, show q + 2 + (dbl wd).length + 1 = q + ((dbl wd).length + 3) by omega]
  rfl
theorem at_sym {s : ByteArray} {q : Nat} {wd R : List UInt8} (h : (sb s).drop q = 35 :: wd ++ R) (hR : Sep R) (hq : q ≤ s.size) (hl : wd.length ≤ 64) (ha : 0 ≤ arityL (mkB wd)) : tokAt s q = .inl (5, wd, 0, q, q + (35 :: wd).length) := by
  have hcs : (sb s).drop q = 35 :: (wd ++ R) := by rw [h]; rfl
  rw [at_hash hcs]
  have hsw : sb (mkB wd) = wd := sb_mk wd
  have hqs := sizeS hcs
  have hd : (sb s).drop (q + 1) = wd ++ R := by rw [← List.drop_drop, hcs]; rfl
  have hmid := midS hd
  have hjoin : ∀ c r, wd = c :: r → letterN c.toNat = true → joinR s (q + 1) = q + 1 + wd.length → hashR s q = .inl (5, wd, q + 1 + wd.length) := by
    intro c r hc hlc hj
    obtain ⟨_, _, _, h40, h39, _⟩ := letter_f hlc
    have hlk : lookB s (q + 1) = c.toNat := look_cons (l := r ++ R) (by rw [hd, hc]; rfl)
    unfold hashR
    rw [hlk, if_neg h40, if_neg h39, if_pos hlc, hj, hmid, if_neg (by omega)]
  suffices h : hashR s q = .inl (5, wd, q + 1 + wd.length) by
    rw [h, List.length_cons, show q + 1 + wd.length = q + (wd.length + 1) by omega]; rfl
  unfold arityL at ha
  rw [mkB_size, if_neg (by omega), hsw] at ha
  split at ha
  · next hn =>
    obtain ⟨hp, c, r, hc, hlc⟩ := name_parts (p := wd) hn
    refine hjoin c r hc hlc ?_
    unfold joinR
    rw [named_nameS hd hp hR, if_neg (by show ¬ (1 = 2); decide)]
  · split at ha
    · next ho =>
      have hr := op_readS hd (by omega) hR ho
      obtain ⟨c, r, hc, _, h1, h2, h3, h4, h5, h6, h7, h8⟩ := op_list ho
      have hlk : lookB s (q + 1) = c.toNat := look_cons (l := r ++ R) (by rw [hd, hc]; rfl)
      unfold hashR
      rw [hlk, if_neg h8, if_neg h7, if_neg (by rw [h1]; simp), hr, if_neg (by rw [hc]; simp), hmid]
    · split at ha
      · next hsf =>
        unfold keysL at ha
        split at ha
        · next hal =>
          have hk : keyT (spl (Lib.trimSuffix wd [58])) = wd := by
            rw [spl_key]
            unfold Lib.hasSuffix at hsf
            obtain ⟨t, ht⟩ := List.isSuffixOf_iff_suffix.1 hsf
            unfold Lib.trimSuffix Lib.hasSuffix
            rw [if_pos hsf, ← ht]
            simp
          have hne : ∀ p ∈ spl (Lib.trimSuffix wd [58]), nameL p = true := fun p hp => List.all_eq_true.1 hal p hp
          generalize spl (Lib.trimSuffix wd [58]) = ps at hk hne
          cases ps with
          | nil => subst hk; exact absurd hsf (by decide)
          | cons p ps =>
            obtain ⟨hp, c, r, rfl, hlc⟩ := name_parts (hne p (List.mem_cons_self ..))
            refine hjoin c (r ++ 58 :: keyT ps) hk.symm hlc ?_
            have hd2 : (sb s).drop (q + 1) = (c :: r) ++ 58 :: (keyT ps ++ R) := by rw [hd, ← hk, keyT, List.append_assoc]; rfl
            have h4 : ∀ d t, keyT ps ++ R = d :: t → d.toNat ≠ 61 := by
              intro d t e
              cases ps with
              | nil => rcases hR d t e with rfl | rfl <;> decide
              | cons p' ps' =>
                obtain ⟨_, c', r', rfl, h5⟩ := name_parts (hne p' (List.mem_cons_of_mem _ (List.mem_cons_self ..)))
                rw [keyT] at e
                injection e with e _
                rw [← e]
                exact letter_not61 h5
            have hl2 := congrArg List.length hk
            simp only [keyT, List.length_append, List.length_cons] at hl2
            have hl3 := congrArg List.length hd2
            simp only [List.length_drop, sb_len, List.length_append, List.length_cons] at hl3
            unfold joinR
            rw [named_key hd2 hp h4, if_pos rfl]
            show joinW _ (q + 1 + (c :: r).length + 1) = _
            rw [join_keyS hR ps _ (by rw [← List.drop_drop, drop_more hd2]; rfl) (fun q hq => hne q (List.mem_cons_of_mem _ hq)) (by simp only [List.length_cons]; omega)]
            simp only [List.length_cons]
            omega
        · omega
      · omega
theorem mark_byte : ∀ i : Fin 7, isOpc (marksL.getD i 0) = false ∧ marksL.getD i 0 ≠ 124 ∧ letterN (marksL.getD i 0).toNat = false ∧ digitN (marksL.getD i 0).toNat = false ∧ (marksL.getD i 0).toNat ≠ 36 ∧ (marksL.getD i 0).toNat ≠ 39 ∧ (marksL.getD i 0).toNat ≠ 35 ∧ Lib.indexByte marksL (marksL.getD i 0) = i ∧ blankN (marksL.getD i 0).toNat = false ∧ marksL.getD i 0 ≠ 34 := by decide +kernel
theorem at_mark {s : ByteArray} {q : Nat} {R : List UInt8} (i : Nat) (hi : i < 7) (h : (sb s).drop q = marksL.getD i 0 :: R) : tokAt s q = .inl (8 + i, [], 0, q, q + 1) := by
  obtain ⟨h1, h2, h3, h4, h5, h6, h7, h8, _⟩ := mark_byte ⟨i, hi⟩
  change isOpc (marksL.getD i 0) = false at h1
  change marksL.getD i 0 ≠ 124 at h2
  change letterN (marksL.getD i 0).toNat = false at h3
  change digitN (marksL.getD i 0).toNat = false at h4
  change (marksL.getD i 0).toNat ≠ 36 at h5
  change (marksL.getD i 0).toNat ≠ 39 at h6
  change (marksL.getD i 0).toNat ≠ 35 at h7
  change Lib.indexByte marksL (marksL.getD i 0) = (i : Int) at h8
  have ho := op_none (c := (marksL.getD i 0).toNat) (by rw [UInt8.ofNat_toNat]; exact h) (by rw [UInt8.ofNat_toNat]; exact h1) (by rw [UInt8.ofNat_toNat]; exact h2)
  unfold tokAt
  rw [if_neg (by have := sizeS h; omega), look_cons h, if_neg (by rw [h3]; simp), if_neg (by rw [h4]; simp), if_neg h5, if_neg h6, if_neg h7]
  unfold markR
  rw [ho, if_neg (by simp), look_cons h, UInt8.ofNat_toNat, h8, if_pos (by omega), Int.toNat_natCast]
  rfl
theorem at_colon {s : ByteArray} {q : Nat} {R : List UInt8} (h : (sb s).drop q = 58 :: R) : tokAt s q = if lookB s (q + 1) ≠ 61 then .inl (16, [], 0, q, q + 1) else .inl (7, [], 0, q, q + 2) := by
  have ho := op_none (c := 58) h (by decide +kernel) (by decide)
  have hlk : lookB s q = 58 := look_cons h
  unfold tokAt
  rw [if_neg (by have := sizeS h; omega), hlk, if_neg (by decide), if_neg (by decide), if_neg (by decide), if_neg (by decide), if_neg (by decide)]
  unfold markR
  rw [ho, if_neg (by simp), hlk, if_neg (by decide), if_neg (by decide)]
  split <;> rfl
/-- a token's text, with a blank or a note or nothing behind it, is read as the token -/
theorem tok_read {k : Nat} {wd : List UInt8} {n : Int} (hv : TokV k wd n) (hk : k ≠ 0) {s : ByteArray} {q : Nat} {R : List UInt8} (h : (sb s).drop q = writL k wd n ++ R) (hR : Sep R) (hq : q ≤ s.size) :
    tokAt s q = .inl (k, wd, n, q, q + (writL k wd n).length) ∧ Beg (writL k wd n) := by
  rcases hv with ⟨rfl, rfl, hl, hp, c, r, hc, hlc⟩ | ⟨rfl, rfl, hl, nm, rfl, hp, c, r, hc, hlc⟩ | ⟨rfl, rfl, hr, h0⟩ | ⟨rfl, rfl, hl⟩ | ⟨rfl, rfl, hl⟩ | ⟨rfl, rfl, ho⟩ | ⟨hk2, rfl, rfl⟩
  · exact ⟨at_name h hR hl hp hc hlc, c, r, hc, (letter_f hlc).2.1, ne_of_toNat 34 rfl (letter_f hlc).2.2.1⟩
  · exact ⟨at_key h hR (by simpa using hl) hp hc hlc, c, r ++ [58], by rw [hc]; rfl, (letter_f hlc).2.1, ne_of_toNat 34 rfl (letter_f hlc).2.2.1⟩
  · obtain ⟨hall, c, r, hc⟩ := itoa_dig hr h0
    have hdc : digitN c.toNat = true := by rw [hc, List.all_cons, Bool.and_eq_true] at hall; exact hall.1
    exact ⟨at_int h hR hr h0, c, r, hc, (digit_f hdc).2.1, ne_of_toNat 34 rfl (digit_f hdc).2.2⟩
  · exact ⟨at_text h hR hl, 39, dbl wd ++ [39], rfl, rfl, by decide⟩
  · by_cases ha : arityL (mkB wd) < 0
    · have e : writL 5 wd 0 = 35 :: quoL wd := by show (if arityL (mkB wd) < 0 then 35 :: quoL wd else 35 :: wd) = _; rw [if_pos ha]
      rw [e] at h ⊢
      exact ⟨at_quoted h hR hl, 35, quoL wd, rfl, rfl, by decide⟩
    · have e : writL 5 wd 0 = 35 :: wd := by show (if arityL (mkB wd) < 0 then 35 :: quoL wd else 35 :: wd) = _; rw [if_neg ha]
      rw [e] at h ⊢
      exact ⟨at_sym h hR hq hl (by omega), 35, wd, rfl, rfl, by decide⟩
  · obtain ⟨c, r, hc, _, h1, h2, h3, h4, _⟩ := op_list ho
    exact ⟨at_op h hR ho hq, c, r, hc, h3, ne_of_toNat 34 rfl h4⟩
  · rcases hk2 with rfl | ⟨h7, h16⟩
    · exact absurd rfl hk
    · by_cases hm : 8 ≤ k ∧ k ≤ 14
      · have e : writL k [] 0 = [marksL.getD (k - 8) 0] := by
          unfold writL
          rw [if_neg (by omega), if_neg (by omega), if_neg (by omega), if_neg (by omega), if_neg (by omega), if_pos hm]
        rw [e] at h ⊢
        have hb := mark_byte ⟨k - 8, by omega⟩
        have := at_mark (k - 8) (by omega) h
        rw [show 8 + (k - 8) = k by omega] at this
        exact ⟨this, _, _, rfl, hb.2.2.2.2.2.2.2.2.1, hb.2.2.2.2.2.2.2.2.2⟩
      · obtain rfl | rfl | rfl : k = 7 ∨ k = 15 ∨ k = 16 := by omega
        · have h1 : (sb s).drop q = 58 :: 61 :: R := h
          have h2 : (sb s).drop (q + 1) = 61 :: R := by rw [← List.drop_drop, h1]; rfl
          refine ⟨?_, 58, [61], rfl, rfl, by decide⟩
          rw [at_colon h1, look_cons h2]
          rfl
        · have h1 : (sb s).drop q = 35 :: 40 :: R := h
          have h2 : (sb s).drop (q + 1) = 40 :: R := by rw [← List.drop_drop, h1]; rfl
          refine ⟨?_, 35, [40], rfl, rfl, by decide⟩
          rw [at_hash h1]
          unfold hashR
          rw [look_cons h2]
          rfl
        · have h1 : (sb s).drop q = 58 :: R := h
          have h2 : (sb s).drop (q + 1) = R := by rw [← List.drop_drop, h1]; rfl
          refine ⟨?_, 58, [], rfl, rfl, by decide⟩
          have hlk := hR.look h2
          rw [at_colon h1, if_pos (by omega)]
          rfl
end Go.Proofs.YtmdkneollidkfaaGreatDoor.Fl

/-
  The lexer: tokens that are written with notes ahead of each.
-/
namespace Go.Proofs.YtmdkneollidkfaaGreatDoor.Fl
open Go.RowKit

/-- each byte but a quote as a note, with a line's end and a blank behind -/
def noteL : List UInt8 → List UInt8
  | [] => []
  | c :: l => if c = 34 then noteL l else 34 :: c :: 34 :: 10 :: 32 :: noteL l
theorem noteL_len : ∀ l : List UInt8, (noteL l).length ≤ 5 * l.length
  | [] => Nat.le_refl _
  | c :: l => by
    have := noteL_len l
    rw [noteL]
    split <;> simp only [List.length_cons] <;> omega
/-- the text of tokens, each with its notes -/
def blkT : List (List UInt8 × Tok) → List UInt8
  | [] => []
  | (ns, x) :: l => noteL ns ++ 32 :: (writL x.1 x.2.1 x.2.2.1 ++ blkT l)
theorem skip_note (m : Option Nat) : ∀ (ns X : List UInt8) (p : Nat), skipA none p (noteL ns ++ X) = skipA none (p + (noteL ns).length) X
  | [], X, p => rfl
  | c :: ns, X, p => by
    rw [noteL]
    split
    · exact skip_note m ns X p
    · next hc =>
      have h34 : blankN (34 : UInt8).toNat = false := rfl
      have h10 : blankN (10 : UInt8).toNat = true := rfl
      have h32 : blankN (32 : UInt8).toNat = true := rfl
      have h := skip_note m ns X (p + 1 + 1 + 1 + 1 + 1)
      simp only [List.cons_append, skipA, h34, h10, h32, if_neg hc, Bool.false_eq_true, if_false, if_true, List.length_cons]
      rw [h]
      congr 1
      omega
def EndK : List (List UInt8 × Tok) → Prop
  | [] => False
  | (_, x) :: l => TokV x.1 x.2.1 x.2.2.1 ∧ (x.1 = 0 ↔ l = []) ∧ (l ≠ [] → EndK l)
def str3 (x : Tok) : Nat × List UInt8 × Int := (x.1, x.2.1, x.2.2.1)
theorem blk_sep (xs : List (List UInt8 × Tok)) : Sep (blkT xs ++ [32]) := by
  intro c r h
  cases xs with
  | nil => injection h with h _; exact .inl h.symm
  | cons y l =>
    obtain ⟨ns, x⟩ := y
    rw [blkT, List.append_assoc] at h
    cases hn : noteL ns with
    | nil => rw [hn] at h; injection h with h _; exact .inl h.symm
    | cons d t =>
      rw [hn] at h
      injection h with h _
      have : ∀ (ns : List UInt8) (d : UInt8) (t : List UInt8), noteL ns = d :: t → d = 34 := by
        intro ns
        induction ns with
        | nil => intro d t e; cases e
        | cons c ns ih =>
          intro d t e
          rw [noteL] at e
          split at e
          · exact ih d t e
          · injection e with e _; exact e.symm
      exact .inr (h.symm.trans (this _ _ _ hn))
theorem TokV.zero {wd : List UInt8} {n : Int} (h : TokV 0 wd n) : wd = [] ∧ n = 0 := by
  rcases h with ⟨h, _⟩ | ⟨h, _⟩ | ⟨h, _⟩ | ⟨h, _⟩ | ⟨h, _⟩ | ⟨h, _⟩ | ⟨_, h1, h2⟩
  all_goals first
    | exact ⟨h2, h1⟩
    | cases h
theorem blk_all : ∀ (xs : List (List UInt8 × Tok)) (s : ByteArray) (p : Nat), (sb s).drop p = blkT xs ++ [32] → p ≤ s.size → EndK xs → ∃ l', allW s p = .inl l' ∧ l'.map str3 = xs.map fun y => str3 y.2
  | [], s, p, _, _, he => he.elim
  | (ns, x) :: l, s, p, h, hp, he => by
    obtain ⟨hv, hz, hrest⟩ := he
    obtain ⟨k, wd, n, at_⟩ := x
    change TokV k wd n at hv
    change k = 0 ↔ l = [] at hz
    have hlen := congrArg List.length h
    rw [List.length_drop, sb_len] at hlen
    by_cases hk : k = 0
    · subst hk
      obtain ⟨rfl, rfl⟩ := hv.zero
      have hl := hz.1 rfl
      subst hl
      have h2 : (sb s).drop p = noteL ns ++ [32, 32] := by rw [h, blkT]; simp [writL, blkT]
      have hsk : skipA none p ((sb s).drop p) = .inl s.size := by
        rw [h2, skip_note none]
        have h32 : blankN (32 : UInt8).toNat = true := rfl
        simp only [skipA, h32, if_true]
        congr 1
        have := congrArg List.length h2
        simp only [List.length_drop, sb_len, List.length_append, List.length_cons, List.length_nil] at this
        omega
      have ht : tokR s p = .inl (0, [], 0, s.size, s.size) := by
        unfold tokR
        rw [hsk]
        show tokAt s s.size = _
        unfold tokAt
        rw [if_pos rfl]
      exact ⟨_, allW_end ht, rfl⟩
    · have hl : l ≠ [] := fun e => hk (hz.2 e)
      have h2 : (sb s).drop p = noteL ns ++ 32 :: (writL k wd n ++ (blkT l ++ [32])) := by rw [h, blkT, List.append_assoc, List.cons_append, List.append_assoc]
      have hl2 := congrArg List.length h2
      simp only [List.length_drop, sb_len, List.length_append, List.length_cons] at hl2
      obtain ⟨q, hq⟩ : ∃ q, p + (noteL ns).length + 1 = q := ⟨_, rfl⟩
      have hd : (sb s).drop q = writL k wd n ++ (blkT l ++ [32]) := by
        rw [← hq, ← List.drop_drop, drop_more h2]; rfl
      have hqs : q ≤ s.size := by omega
      obtain ⟨hta, c, r, hc, hb, h34⟩ := tok_read hv hk hd (blk_sep l) hqs
      have hsk : skipA none p ((sb s).drop p) = .inl q := by
        rw [h2, skip_note none, hc]
        have h32 : blankN (32 : UInt8).toNat = true := rfl
        simp only [List.cons_append, skipA, h32, if_true, hb, Bool.false_eq_true, if_false, if_neg h34, hq]
      have ht : tokR s p = .inl (k, wd, n, q, q + (writL k wd n).length) := by
        unfold tokR
        rw [hsk]
        exact hta
      have hin := tokR_in hp ht
      obtain ⟨l', e1, e2⟩ := blk_all l s (q + (writL k wd n).length) (drop_more hd) hin (hrest hl)
      have hgo := (allW_go hp hin ht hk []).2
      rw [preW_nil, e1] at hgo
      refine ⟨(k, wd, n, q) :: l', hgo, ?_⟩
      rw [List.map_cons, List.map_cons, e2]
      rfl
/-- the tokens, each with its notes -/
def pairsT (f : Nat → List UInt8) : List Tok → Nat → List (List UInt8 × Tok)
  | [], _ => []
  | x :: l, i => (f i, x) :: pairsT f l (i + 1)
theorem pairs_end (f : Nat → List UInt8) {s : ByteArray} : ∀ (l : List Tok) (p i : Nat), PlA s p l → l ≠ [] → EndK (pairsT f l i)
  | [], _, _, _, h => absurd rfl h
  | x :: l, p, i, h, _ => by
    obtain ⟨hv, _, _, hz, _, hr⟩ := h
    refine ⟨hv, hz.trans ?_, fun hne => pairs_end f l _ _ hr (fun e => hne (by rw [e]; rfl))⟩
    cases l <;> simp [pairsT]
theorem pairs_map (f : Nat → List UInt8) : ∀ (l : List Tok) (i : Nat), ((pairsT f l i).map fun y => str3 y.2) = l.map str3
  | [], _ => rfl
  | x :: l, i => by rw [pairsT, List.map_cons, List.map_cons, pairs_map f l (i + 1)]
end Go.Proofs.YtmdkneollidkfaaGreatDoor.Fl
