/-
  Instructions: Check's run of any code.
-/
import Derived.Test.YtdfghcbojbbgcaaDoorCeN
namespace Go.Proofs.YtdfghcbojbbgcaaDoor.Fl
open Go.RowKit Go.Maps

theorem nodup_le : ∀ (N : Nat) (l : List Int), l.Nodup → (∀ k ∈ l, 0 ≤ k ∧ k < (N : Int)) → l.length ≤ N
  | 0, l, _, h => by
    cases l with
    | nil => exact Nat.le_refl _
    | cons x l => have := h x (List.mem_cons_self ..); omega
  | N + 1, l, hn, h => by
    by_cases hm : (N : Int) ∈ l
    · have h1 := nodup_le N (l.erase (N : Int)) (hn.erase _) (fun k hk => by
        obtain ⟨h1, h2⟩ := (hn.mem_erase_iff).1 hk
        have := h k h2
        omega)
      have h2 := List.length_erase_of_mem hm
      omega
    · exact Nat.le_succ_of_le (nodup_le N l hn (fun k hk => by
        have h1 := h k hk
        have h2 : k ≠ (N : Int) := fun e => hm (e ▸ hk)
        omega))
theorem kn_le {code : List UInt8} {D D1 : DataW Unit} {n : Nat} (h : Kn D n) (h1 : ∀ k, hasK D k → hasK D1 k) (hp : P1 code D1) : n ≤ code.length := by
  obtain ⟨ks, hnd, rfl, hk⟩ := h
  refine nodup_le _ ks hnd (fun k hm => ?_)
  obtain ⟨x, p, hd⟩ := hp k (h1 k ((hk k).2 hm))
  obtain ⟨n, rfl, h2, h3, _⟩ := enc_dec hd
  omega
theorem kn_nil : Kn (.map []) 0 := ⟨[], List.nodup_nil, rfl, fun k => ⟨fun h => (by cases h), fun h => (by cases h)⟩⟩
/-- every instruction that is reached reaches what has its depth -/
structure RunOK (code : List UInt8) (D : DataW Unit) (most : Int) : Prop where
  zero : hasK D 0 ∧ valK D 0 0
  closed : ∀ k, hasK D k → ClosedAt code D k
  bd : ∀ k v, hasK D k → valK D k v → 0 ≤ v ∧ v ≤ most
theorem OwnZ.short {w : World} {base c : Nat} {A : Option Addr} {os : List Int} {x : Int} (h : OwnZ w base (.slice A (os ++ [x]).length c) (os ++ [x])) : OwnZ w base (.slice A os.length c) os := by
  rcases h.2 with ⟨_, e⟩ | ⟨g, cap, cur, e1, hb, hg, hc, hm, hs, ht⟩
  · rw [List.length_append, List.length_singleton] at e; omega
  · injection e1 with e1 e2 e3
    subst e1 e3
    refine ⟨cz_len os, .inr ⟨g, c, cur, rfl, hb, hg, ?_, hm, hs, ?_⟩⟩
    · rw [List.length_append, List.length_singleton] at hc; omega
    · have h9 := congrArg (List.take (os.length * 1)) ht
      rw [List.take_take, cz_app, List.take_left' (by rw [cz_len]), List.length_append, List.length_singleton, Nat.min_eq_left (by omega)] at h9
      exact h9
theorem CkX.pop {w0 w : World} {base C N c M1 M2 n1 n2 : Nat} {A A0 : Option Addr} {L S F : Int} {D1 D2 : DataW Unit} {c0 : Nat} {os : List Int} {x most : Int} (h : CkX w0 w base C N c M1 M2 A L S F n1 n2 D1 D2 (.slice A0 (os ++ [x]).length c0) (os ++ [x]) most) : CkX w0 (w.setCell ⟨C, 6, none⟩ (.slice A0 os.length c0)) base C N c M1 M2 A L S F n1 n2 D1 D2 (.slice A0 os.length c0) os most := by
  have hrow := h.row.short
  have hfar : ∀ j, (Value.slice A0 os.length c0).ownBlock = some j → j ≠ C ∧ j ≠ M1 ∧ j ≠ M2 := fun j hj => h.far j (by
    have : (Value.slice A0 (os ++ [x]).length c0).ownBlock = (Value.slice A0 os.length c0).ownBlock := by cases A0 <;> rfl
    rw [this]; exact hj)
  exact ⟨h.bel.setCell (p := ⟨C, 6, none⟩) h.lo.1 _, heap_setCell_same w C 6 _ _ _ h.blk, h.m1.keep (Below.heap_setCell _ _ _ _ h.ne.1.symm), h.m2.keep (Below.heap_setCell _ _ _ _ h.ne.2.1.symm), hrow.keep (fun j hj => Below.heap_setCell _ _ _ _ (hfar j hj).1), hfar, h.lo, h.ne, h.i1, h.i2⟩
theorem ownZ_cap {w : World} {base n c : Nat} {A : Option Addr} {os : List Int} (h : OwnZ w base (.slice A n c) os) : os.length ≤ c ∧ n = os.length := by
  rcases h.2 with ⟨e1, e⟩ | ⟨g, cap, cur, e1, hb, hg, hc, hm, hs, ht⟩
  · cases e1; omega
  · injection e1 with e1 e2 e3
    omega
/-- what stands at the head of the loop -/
structure RunJ (code : List UInt8) (w0 wr : World) (base C N c M1 M2 : Nat) (A : Option Addr) (L S F : Int) (n1 n2 : Nat) (D1 D2 : DataW Unit) (A0 : Option Addr) (c0 : Nat) (os : List Int) (most : Int) : Prop where
  ck : CkX w0 wr base C N c M1 M2 A L S F n1 n2 D1 D2 (.slice A0 os.length c0) os most
  kn : Kn D2 n2
  sub : ∀ k, hasK D2 k → hasK D1 k
  zero : hasK D2 0 ∧ valK D2 0 0
  bd : ∀ k v, hasK D2 k → valK D2 k v → 0 ≤ v ∧ v ≤ most
  mx : most ≤ 255 + 2 * (n2 : Int)
  mo : 0 ≤ most
  inos : ∀ k, k ∈ os → hasK D2 k
  cl : ∀ k, hasK D2 k → k ∈ os ∨ ClosedAt code D2 k
  ol : os.length ≤ n2
theorem RunJ.step {code : List UInt8} {w0 wr w' : World} {base C N c M1 M2 : Nat} {A : Option Addr} {L S F : Int} {n1 n2 n2' : Nat} {D1 D2 D2' : DataW Unit} {A0 A1 : Option Addr} {c0 c1 : Nat} {os os' : List Int} {x most most' : Int} (h : RunJ code w0 wr base C N c M1 M2 A L S F n1 n2 D1 D2 A0 c0 (os ++ [x]) most)
    (hck : CkX w0 w' base C N c M1 M2 A L S F n1 n2' D1 D2' (.slice A1 os'.length c1) os' most') (hx : Ext D1 D2 n2 os most D2' n2' os' most') (hc : ClosedAt code D2' x) : RunJ code w0 w' base C N c M1 M2 A L S F n1 n2' D1 D2' A1 c1 os' most' := by
  have hol := h.ol
  rw [List.length_append, List.length_singleton] at hol
  have hcnt := hx.cnt
  refine ⟨hck, hx.kn h.kn, fun k hk => ?_, ⟨hx.keepH 0 h.zero.1, hx.keepV 0 0 h.zero.1 h.zero.2⟩, hx.bd h.bd, hx.mx h.mx, Int.le_trans h.mo hx.mo, fun k hk => ?_, fun k hk => ?_, by omega⟩
  · rcases hx.new k hk with hk | ⟨_, hk⟩
    · exact h.sub k hk
    · exact hk
  · rcases hx.got k hk with hk | hk
    · exact hx.keepH k (h.inos k (List.mem_append_left _ hk))
    · exact hk
  · rcases hx.new k hk with hk | ⟨hk, _⟩
    · rcases h.cl k hk with hm | hcl
      · rcases List.mem_append.1 hm with hm | hm
        · exact .inl (hx.old k hm)
        · obtain rfl := List.mem_singleton.1 hm
          exact .inr hc
      · exact .inr (hcl.mono hk hx)
    · exact .inl hk
set_option maxRecDepth 100000 in
set_option maxHeartbeats 4000000 in
theorem run_any {w0 w : World} {base C c M1 M2 n1 B : Nat} {A : Option Addr} {L S F : Int} {D1 : DataW Unit} (code : List UInt8) (hN2 : code.length ≤ 1000) (h : CkX w0 w base C code.length c M1 M2 A L S F n1 0 D1 (.map []) (.slice none 0 0) [] 0) (hp : P1 code D1) (hr : ∀ w', Below base w0 w' → Rd w' B A (cb code)) (hB : B ≤ base) (hc : code.length ≤ c) (hF : ∀ w', Below base w0 w' → FormsAt w') :
    Calls Tryd.prog 11 #[.pointer (some ⟨C, 0, none⟩)] w fun e w' => ((∃ n, n ≠ 0 ∧ e = .panicked (faultK n)) ∧ Below base w0 w') ∨ (e = .returned (.tuple #[]) ∧ ∃ n2 D2 v os most, CkX w0 w' base C code.length c M1 M2 A L S F n1 n2 D1 D2 v os most ∧ RunOK code D2 most ∧ 0 ≤ most ∧ most ≤ 10000) := by
  have hre := reach_any (A0 := none) (c0 := 0) (os := []) h 0 0 0 (by decide) (by decide) (by decide) (by decide) (by decide) (by decide) (by decide) (by decide) (by decide) (.inl (by decide))
  have HR := Lib.hid hr
  have HF := Lib.hid hF
  have HP := Lib.hid hp
  have hgu := fun w => giveUpC_any (.pointer (some ⟨C, 0, none⟩)) 2 w
  clear h hr hF hp
  go_enter Tryd.func11, Tryd.ntmps11
  go_wp2_with fail
  refine hre.mono ?_
  rintro e w1 (⟨rfl, hb⟩ | ⟨rfl, m1, E1, B1, k1, s1, x1, hS, hK, hc1, hX, hH, hV⟩)
  · exact ⟨rfl, .inl ⟨⟨3, by decide, rfl⟩, hb⟩⟩
  have HJ1 := Lib.hid (show RunJ code w0 w1 base C code.length c M1 M2 A L S F n1 m1 D1 E1 B1 k1 s1 x1 from ⟨hS, hX.kn kn_nil, fun k hk => (hX.new k hk).elim (fun h => by cases h) (fun h => h.2), ⟨hH, hV⟩, hX.bd (fun k v h => by cases h), hX.mx (by decide), hX.mo, fun k hk => (hX.got k hk).elim (fun h => by cases h) id, fun k hk => (hX.new k hk).elim (fun h => by cases h) (fun h => .inl h.1), by have := hX.cnt; simp only [List.length_nil] at this; omega⟩)
  clear hre hS hK hc1 hX hH hV
  go_wp2_with fail
  go_loopg [] (2 * (code.length + 1 - m1) + s1.length) (fun g wr => ∃ (n2 : Nat) (D2 : DataW Unit) (A0 : Option Addr) (c0 : Nat) (os : List Int) (most : Int), Hid (RunJ code w0 wr base C code.length c M1 M2 A L S F n1 n2 D1 D2 A0 c0 os most) ∧ g = 2 * (code.length + 1 - n2) + os.length)
  case atStart => exact ⟨m1, E1, B1, k1, s1, x1, HJ1, rfl⟩
  case round =>
    clear HJ1
    obtain ⟨n2, D2, A0, c0, os, most, HJ, hgk⟩ := hrel
    have HG := Lib.hid hgk
    clear hgk
    have hn2 := kn_le HJ.out.kn HJ.out.sub HP.out
    rcases List.eq_nil_or_concat os with rfl | ⟨os0, x, hos⟩
    · have fC := eight_cellsC HJ.out.ck.blk
      have HOK := Lib.hid (show RunOK code D2 most from ⟨HJ.out.zero, fun k hk => (HJ.out.cl k hk).elim (fun h => by cases h) id, HJ.out.bd⟩)
      have hmx := HJ.out.mx
      have hmo := HJ.out.mo
      by_cases hov : 200 < most
      · go_wp2_with (go_at_call 19; refine (hgu _).mono ?_; rintro e w7 ⟨rfl, rfl⟩)
        exact ⟨rfl, .inl ⟨⟨2, by decide, rfl⟩, HJ.out.ck.bel⟩⟩
      · go_wp2_with fail
        go_end0
        exact .inr ⟨rfl, n2, D2, _, _, most, HJ.out.ck, HOK.out, hmo, by omega⟩
    · rw [List.concat_eq_append] at hos
      subst hos
      have hx := HJ.out.inos x (List.mem_append_right _ (List.mem_singleton.2 rfl))
      obtain ⟨⟨op, a, b⟩, p, hdx⟩ := HP.out x (HJ.out.sub x hx)
      obtain ⟨q, rfl, hqp, hpl, -, -⟩ := enc_dec hdx
      obtain ⟨g, rfl, hcell⟩ := ownZ_at HJ.out.ck.row (j := os0.length) (by rw [List.length_append, List.length_singleton]; omega)
      have hgx : (os0 ++ [(q : Int)])[os0.length]'(by rw [List.length_append, List.length_singleton]; omega) = (q : Int) := by simp
      rw [hgx] at hcell
      have hcap := (ownZ_cap HJ.out.ck.row).1
      rw [List.length_append, List.length_singleton] at hcap
      have hol := HJ.out.ol
      rw [List.length_append, List.length_singleton] at hol
      have hpop := HJ.out.ck.pop
      have fC := eight_cellsC HJ.out.ck.blk
      have hst := step_any code rfl hN2 hpop (HR.out _ hpop.bel) hB hc (fun w' hb => HF.out w' (hpop.bel.trans hb)) q hx op a b p hdx HJ.out.bd HJ.out.mx (by omega) (by omega)
      have i1 : (0 : Int) ≤ (os0.length : Int) := by omega
      have i2 : (os0.length : Int) ≤ (c0 : Int) := by omega
      have i3 : os0.length < c0 := by omega
      clear hx hdx hgx hpop
      go_wp2_with fail
      refine hst.mono ?_
      rintro e w2 (⟨⟨n8, hn8, rfl⟩, hb⟩ | ⟨rfl, m2, E2, B2, k2, s2, x2, hS, hX, hC⟩)
      · exact ⟨rfl, .inl ⟨⟨n8, hn8, rfl⟩, hb⟩⟩
      have HJ2 := Lib.hid (HJ.out.step hS hX hC)
      have hk2 := kn_le HJ2.out.kn HJ2.out.sub HP.out
      have hct := hX.cnt
      have hle := hX.le
      have hlt : 2 * (code.length + 1 - m2) + s2.length < gk := by have := HG.out; rw [List.length_append, List.length_singleton] at this; omega
      have HLT := Lib.hid hlt
      clear hst hS hX hC hcell fC hlt hk2 hct hle
      go_wp2_with fail
      go_roundg (2 * (code.length + 1 - m2) + s2.length)
      case measure => exact HLT.out
      case rel => exact ⟨m2, E2, B2, k2, s2, x2, HJ2, rfl⟩
end Go.Proofs.YtdfghcbojbbgcaaDoor.Fl

