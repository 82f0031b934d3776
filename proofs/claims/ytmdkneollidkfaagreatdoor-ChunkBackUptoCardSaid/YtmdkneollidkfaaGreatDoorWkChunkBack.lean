/-
  What both write is the same; what hangs on names alone.
-/
import Derived.Test.YtmdkneollidkfaaGreatDoorClO
import Derived.Test.YtmdkneollidkfaaGreatDoorClG
namespace Go.Proofs.YtmdkneollidkfaaGreatDoor.Fl
open Go.RowKit Go.Shelf

theorem fld_small {fl : List (List UInt8)} (h : namesOk fl = true) (h8 : fl.length ≤ 8) : (fldW fl).length ≤ 4096 := by
  have h1 := fldW_len fl 64 (fun x hx => (nm_of (namesOk_all h x hx)).1)
  have h2 : fl.length * (64 + 1) ≤ 8 * 65 := Nat.mul_le_mul_right _ h8
  omega
theorem okC_names {c : Cls} (h : okC c = true) : namesOk c.2.2.1 = true := by
  unfold okC isClassR at h
  rw [Bool.and_eq_true] at h
  exact h.2
theorem writeR_doc {cs : List Cls} {ss : List Src} (h : ∀ c ∈ cs, c.2.2.1.length ≤ 8) : writeR cs ss = docR cs ss := by
  unfold writeR docR
  by_cases h1 : 65536 < (unitW cs ss).length
  · rw [if_pos h1, if_pos h1]
  rw [if_neg h1, if_neg h1]
  by_cases h2 : (cs.all okC && ss.all srcOk) = false
  · rw [if_pos h2, if_pos h2]
  rw [if_neg h2, if_neg h2, if_neg]
  have h3 : cs.all okC = true := by
    rw [Bool.not_eq_false, Bool.and_eq_true] at h2
    exact h2.1
  have h4 : cs.all rdC = true := by
    rw [List.all_eq_true] at h3 ⊢
    intro c hc
    exact decide_eq_true (fld_small (okC_names (h3 c hc)) (h c hc))
  rw [h4]; decide
/-- what is written without an error -/
theorem docR_ok {cs : List Cls} {ss : List Src} (h8 : ∀ c ∈ cs, c.2.2.1.length ≤ 8) (h : (docR cs ss).2 = 0) : (unitW cs ss).length ≤ 65536 ∧ (∀ c ∈ cs, clsOkW c = true) ∧ (∀ x ∈ ss, srcOk x = true) ∧ docR cs ss = (unitW cs ss, 0) := by
  unfold docR at h ⊢
  by_cases h1 : 65536 < (unitW cs ss).length
  · rw [if_pos h1] at h; cases h
  rw [if_neg h1] at h ⊢
  by_cases h2 : (cs.all okC && ss.all srcOk) = false
  · rw [if_pos h2] at h; cases h
  rw [if_neg h2]
  rw [Bool.not_eq_false, Bool.and_eq_true, List.all_eq_true, List.all_eq_true] at h2
  refine ⟨by omega, fun c hc => ?_, h2.2, rfl⟩
  unfold clsOkW
  rw [Bool.and_eq_true]
  exact ⟨h2.1 c hc, decide_eq_true (fld_small (okC_names (h2.1 c hc)) (h8 c hc))⟩
theorem clsW_nC {c d : Cls} (h : nC c = nC d) : clsW c = clsW d ∧ okC c = okC d ∧ rdC c = rdC d := by
  unfold nC at h
  injection h with h1 h
  injection h with h2 h3
  unfold clsW clsT okC rdC
  rw [h1, h2, h3]
  exact ⟨rfl, rfl, rfl⟩
theorem nS_parts {x y : Src} (h : nS x = nS y) : keyS x = keyS y ∧ x.2.2.1 = y.2.2.1 := by
  unfold nS at h
  injection h with h1 h
  injection h with h2 h3
  unfold keyS
  exact ⟨by rw [h1, h2], h3⟩
theorem clssW_nC : ∀ {cs ds : List Cls}, cs.map nC = ds.map nC → clssW cs = clssW ds ∧ cs.all okC = ds.all okC ∧ cs.all rdC = ds.all rdC
  | [], [], _ => ⟨rfl, rfl, rfl⟩
  | [], _ :: _, h => by cases h
  | _ :: _, [], h => by cases h
  | c :: cs, d :: ds, h => by
    rw [List.map_cons, List.map_cons] at h
    injection h with h1 h2
    obtain ⟨a1, a2, a3⟩ := clsW_nC h1
    obtain ⟨b1, b2, b3⟩ := clssW_nC h2
    refine ⟨?_, by rw [List.all_cons, List.all_cons, a2, b2], by rw [List.all_cons, List.all_cons, a3, b3]⟩
    show clsW c ++ clssW cs = clsW d ++ clssW ds
    rw [a1, b1]
theorem srcsW_nS : ∀ {ss xs : List Src} (m : Option (List UInt8 × Bool)), ss.map nS = xs.map nS → srcsW m ss = srcsW m xs ∧ ss.all srcOk = xs.all srcOk
  | [], [], _, _ => ⟨rfl, rfl⟩
  | [], _ :: _, _, h => by cases h
  | _ :: _, [], _, h => by cases h
  | x :: ss, y :: xs, m, h => by
    rw [List.map_cons, List.map_cons] at h
    injection h with h1 h2
    obtain ⟨a1, a2⟩ := nS_parts h1
    have a3 := a1
    unfold keyS at a3
    injection a3 with a3 a4
    obtain ⟨b1, b2⟩ := srcsW_nS (some (keyS x)) h2
    refine ⟨?_, ?_⟩
    · rw [srcsW_cons, srcsW_cons, b1, a1, a2, a3, a4]
    · rw [List.all_cons, List.all_cons, b2]
      unfold srcOk
      rw [a3, a2]
theorem writeR_same {cs ds : List Cls} {ss xs : List Src} (h1 : cs.map nC = ds.map nC) (h2 : ss.map nS = xs.map nS) : writeR cs ss = writeR ds xs := by
  obtain ⟨a1, a2, a3⟩ := clssW_nC h1
  obtain ⟨b1, b2⟩ := srcsW_nS none h2
  have e : unitW cs ss = unitW ds xs := by unfold unitW; rw [a1, b1]
  unfold writeR
  rw [e, a2, a3, b2]
/-! ### bounds -/
def BdN (c : Cls) : Prop := c.1.length ≤ 16777216 ∧ c.2.1.length ≤ 16777216 ∧ (∀ s ∈ c.2.2.1, s.length ≤ 16777216) ∧ c.2.2.1.length ≤ 100000000 ∧ (fldW c.2.2.1).length ≤ 16777216
theorem bdN_nC {c d : Cls} (h : nC c = nC d) (hd : BdN d) : BdN c := by
  unfold nC at h
  injection h with h1 h
  injection h with h2 h3
  unfold BdN
  rw [h1, h2, h3]
  exact hd
theorem bd_few {w : World} {x : Cls × Value} (h : ClsIn w 1048576 x) : BdN (fewK x.1) ∧ (fewK x.1).2.2.1.length ≤ 8 := by
  obtain ⟨h1, h2, h3, _, _⟩ := h
  have h8 : (x.1.2.2.1.take 8).length ≤ 8 := by rw [List.length_take]; omega
  have h4 : ∀ s ∈ x.1.2.2.1.take 8, s.length ≤ 1048576 := fun s hs => h3 s (List.mem_of_mem_take hs)
  have h5 := fldW_len (x.1.2.2.1.take 8) 1048576 h4
  have h6 : (x.1.2.2.1.take 8).length * (1048576 + 1) ≤ 8 * 1048577 := Nat.mul_le_mul_right _ h8
  refine ⟨⟨?_, ?_, fun s hs => ?_, ?_, ?_⟩, h8⟩
  · show x.1.1.length ≤ _; omega
  · show x.1.2.1.length ≤ _; omega
  · have := h4 s hs; omega
  · show (x.1.2.2.1.take 8).length ≤ _; omega
  · show (fldW (x.1.2.2.1.take 8)).length ≤ _; omega
theorem bdS_few {x : Src} (h : SrcIn 1048576 x) : BdS (fewX x) := by
  obtain ⟨h1, h2, _⟩ := h
  refine ⟨?_, ?_⟩
  · show x.1.length ≤ _; omega
  · show (x.2.2.1.take 9000).length ≤ _
    rw [List.length_take]; omega
theorem bdS_nS {x y : Src} (h : nS x = nS y) (hy : BdS y) : BdS x := by
  obtain ⟨a1, a2⟩ := nS_parts h
  unfold keyS at a1
  injection a1 with a1 _
  unfold BdS
  rw [a1, a2]
  exact hy
theorem mem_map_eq {α β γ : Type} {f : α → γ} {g : β → γ} {l : List α} {m : List β} (h : l.map f = m.map g) {x : α} (hx : x ∈ l) : ∃ y ∈ m, f x = g y := by
  have h1 : f x ∈ l.map f := List.mem_map_of_mem hx
  rw [h] at h1
  obtain ⟨y, hy, e⟩ := List.mem_map.1 h1
  exact ⟨y, hy, e.symm⟩
end Go.Proofs.YtmdkneollidkfaaGreatDoor.Fl

/-
  ChunkBack: the walk.
-/
namespace Go.Proofs.YtmdkneollidkfaaGreatDoor.Fl
open Go.RowKit Go.Shelf

theorem Rd.box {w : World} {T B : Nat} {A A1 A2 : Option Addr} {n1 c1 n2 c2 : Nat} {ty : TypeId} {fr : Nat × Nat} {vs : List Value} (hq : w.heap[T]? = some (.cells #[.slice A1 n1 c1, .slice A2 n2 c2] ty fr)) (hs : ∀ v l, vs = v :: l → ∃ s, v = .string s) (h : Rd w B A vs) (k : Nat) (x : Value) : Rd (w.setCell ⟨T, k, none⟩ x) B A vs := by
  rcases h with h | ⟨b, off, rfl, hb, hc⟩
  · exact .inl h
  cases vs with
  | nil => exact .inl rfl
  | cons v l =>
    obtain ⟨s, rfl⟩ := hs v l rfl
    have hne : b ≠ T := by
      intro e
      subst e
      have h1 := hc 0 _ rfl
      rw [Nat.add_zero] at h1
      unfold World.cell? at h1
      simp only [hq] at h1
      match off, h1 with
      | 0, h1 => simp at h1
      | 1, h1 => simp at h1
      | n + 2, h1 => simp at h1
    refine .inr ⟨b, off, rfl, hb, fun j v hj => ?_⟩
    have h2 := hc j v hj
    unfold World.cell? at h2 ⊢
    rw [Below.heap_setCell w ⟨T, k, none⟩ x b hne]
    exact h2
theorem UnAt.box {w : World} {T B : Nat} {A1 A2 : Option Addr} {n1 c1 n2 c2 : Nat} {ty : TypeId} {fr : Nat × Nat} {v0 v1 : Value} {fs : List (Cls × Value)} {ss : List Src} (hq : w.heap[T]? = some (.cells #[.slice A1 n1 c1, .slice A2 n2 c2] ty fr)) (h : UnAt w B v0 v1 fs ss) (k : Nat) (x : Value) : UnAt (w.setCell ⟨T, k, none⟩ x) B v0 v1 fs ss := by
  obtain ⟨⟨A, c, e1, e2, e3⟩, ⟨A', c', g1, g2, g3⟩, hf⟩ := h
  refine ⟨⟨A, c, e1, e2, e3.box hq (fun v l hv => ?_) k x⟩, ⟨A', c', g1, g2, g3.box hq (fun v l hv => ?_) k x⟩, fun y hy => ?_⟩
  · cases fs with
    | nil => cases hv
    | cons z fs => injection hv with hv _; exact ⟨_, hv.symm⟩
  · cases ss with
    | nil => cases hv
    | cons z ss => injection hv with hv _; exact ⟨_, hv.symm⟩
  · obtain ⟨A, c, h1, h2, h3, h4⟩ := hf y hy
    refine ⟨A, c, h1, h2, h3, h4.box hq (fun v l hv => ?_) k x⟩
    cases hl : y.1.2.2.1 with
    | nil => rw [hl] at hv; cases hv
    | cons z l => rw [hl] at hv; injection hv with hv _; exact ⟨_, hv.symm⟩
theorem map_nA (fs : List (Cls × Value)) : fs.map nA = (fs.map fun x => x.1).map nC := by rw [List.map_map]; rfl
set_option maxRecDepth 100000 in
set_option maxHeartbeats 8000000 in
theorem walk_ChunkBack (v0 v1 : Value) (fs : List (Cls × Value)) (ss : List Src) (w : World) (hun : UnAt w w.heap.size v0 v1 fs ss) (hci : ∀ x ∈ fs, ClsIn w 1048576 x) (hsi : ∀ x ∈ ss, SrcIn 1048576 x) (henv : EnvL w) (hm : MaxAt w) :
    Calls Tryz.prog 4 #[.agg #[v0, v1]] w fun e w' => e = .returned (.bool true) ∧ Below w.heap.size w w' := by
  have hE : ∀ w', Below w.heap.size w w' → EnvL w' := fun w' hb => henv.below hb
  have HAW := Lib.hid (fun w' (hb : Below w.heap.size w w') => awakeK_any w' (maxAt_low hm hb) (fun w2 h2 => hE w2 (hb.trans (h2.mono hb.size))))
  have HK := Lib.hid (fun (s : ByteArray) w' (hs : s.size ≤ 65536) (hb : Below w.heap.size w w') => readK_ans s w' (by omega) (maxAt_low hm hb) (fun w2 hb2 => hE w2 (hb.trans (hb2.mono hb.size))))
  have HMX := Lib.hid (fun w' (hb : Below w.heap.size w w') => maxAt_low hm hb)
  have HI := Lib.hid (And.intro hci hsi)
  have hun2 := hun
  obtain ⟨⟨A1, c1, rfl, -, -⟩, ⟨A2, c2, rfl, -, -⟩, -⟩ := hun2
  obtain ⟨W1, hW1⟩ : ∃ W1, w.alloc (.cells #[.slice A1 fs.length c1, .slice A2 ss.length c2] 45) = W1 := ⟨_, rfl⟩
  have hq1 : W1.heap[w.heap.size]? = some (.cells #[.slice A1 fs.length c1, .slice A2 ss.length c2] 45 (0, 0)) := by rw [← hW1]; exact heap_alloc_new _ _
  have hb1 : Below w.heap.size w W1 := by rw [← hW1]; exact (Below.refl _ _).alloc (Nat.le_refl _) _
  have HU1 := Lib.hid (hun.up2 hb1)
  have HB1 := Lib.hid hb1
  obtain ⟨T, hT⟩ : ∃ T, w.heap.size = T := ⟨_, rfl⟩
  rw [hT] at hq1
  have HQ1 := Lib.hid hq1
  have haw := HAW.out W1 hb1
  clear hE henv hm hci hsi hun hq1 hb1
  go_enter Tryz.func4, Tryz.ntmps4
  go_upto_region 1 with fail
  try simp only [hW1, hT]
  clear hW1
  go_upto_region 3 with (go_at_call 13; refine haw.mono ?_; rintro e w2 ⟨rfl, hb2⟩; clear haw)
  have HB2 := Lib.hid (HB1.out.trans (hb2.mono HB1.out.size))
  have HU2 := Lib.hid (HU1.out.up2 hb2)
  have HQ2 := Lib.hid ((hb2.block _ (lt_of_blk HQ1.out)).trans HQ1.out)
  clear hb2 HB1 HU1 HQ1 HAW
  have f2 := cells2V HQ2.out
  have l2 := lt_of_blk HQ2.out
  have hfw := few_any w2 _ _ fs ss HU2.out
  obtain ⟨ss2, hss2⟩ : ∃ l, (ss.take 12).map fewX = l := ⟨_, rfl⟩
  obtain ⟨cs2, hcs2⟩ : ∃ l, (fs.take 12).map (fun x => fewK x.1) = l := ⟨_, rfl⟩
  have hx1 : ss2.length ≤ 12 := by rw [← hss2, List.length_map, List.length_take]; omega
  have hx2 : cs2.length ≤ 12 := by rw [← hcs2, List.length_map, List.length_take]; omega
  have HBS := Lib.hid (show ∀ x ∈ ss2, BdS x from fun x hx => by
    rw [← hss2] at hx
    obtain ⟨y, hy, rfl⟩ := List.mem_map.1 hx
    exact bdS_few (HI.out.2 y (List.mem_of_mem_take hy)))
  have HBC := Lib.hid (show ∀ c ∈ cs2, BdN c ∧ c.2.2.1.length ≤ 8 from fun c hc => by
    rw [← hcs2] at hc
    obtain ⟨y, hy, rfl⟩ := List.mem_map.1 hc
    exact bd_few (HI.out.1 y (List.mem_of_mem_take hy)))
  unfold FewPost at hfw
  rw [hss2, hcs2] at hfw
  clear HI hss2 hcs2
  go_upto_region 4 with (go_at_call 14; refine hfw.mono ?_; rintro e w3 ⟨hb3, u0, u1, fs2, rfl, hun3, hmap⟩; clear hfw
                         have hun4 := hun3
                         obtain ⟨⟨A3, c3, rfl, -, -⟩, ⟨A4, c4, rfl, -, -⟩, -⟩ := hun4
                         have hq3 := (hb3.block _ (lt_of_blk HQ2.out)).trans HQ2.out
                         have l3 := lt_of_blk hq3
                         have f3 := cells2V hq3)
  obtain ⟨W4, hW4⟩ : ∃ W4, (w3.setCell ⟨T, 0, none⟩ (.slice A3 fs2.length c3)).setCell ⟨T, 1, none⟩ (.slice A4 ss2.length c4) = W4 := ⟨_, rfl⟩
  have hb4 : Below w.heap.size w3 W4 := by rw [← hW4]; exact ((Below.refl _ w3).setCell (p := ⟨T, 0, none⟩) (Nat.le_of_eq hT) _).setCell (p := ⟨T, 1, none⟩) (Nat.le_of_eq hT) _
  have hq4 : W4.heap[T]? = some (.cells #[.slice A3 fs2.length c3, .slice A4 ss2.length c4] 45 (0, 0)) := by rw [← hW4]; exact set2V hq3 _ _
  have hu4 : UnAt W4 w3.heap.size (.slice A3 fs2.length c3) (.slice A4 ss2.length c4) fs2 ss2 := by
    rw [← hW4]
    exact (hun3.box hq3 0 _).box (heap_setCell_same _ T 0 _ _ _ hq3) 1 _
  have HU4 := Lib.hid (hu4.more hb4.size)
  have HB4 := Lib.hid ((HB2.out.trans (hb3.mono HB2.out.size)).trans hb4)
  have HQ4 := Lib.hid hq4
  have HM2 := Lib.hid hmap
  try rw [hW4]
  clear f2 l2 f3 hb3 hun3 hmap hq3 l3 hW4 hb4 hq4 hu4 HB2 HU2 HQ2 hT
  have f4 := cells2V HQ4.out
  have l4 := lt_of_blk HQ4.out
  have hf2l : fs2.length ≤ 12 := by have := congrArg List.length HM2.out; rw [List.length_map] at this; omega
  have HBD2 := Lib.hid (show ∀ x ∈ fs2, BdC x from fun x hx => (HBC.out x.1 (by rw [← HM2.out]; exact List.mem_map_of_mem hx)).1)
  have how := own12_any W4 _ _ fs2 ss2 HU4.out (by omega) (fun x hx => by have := (HBD2.out x hx).2.2.2.1; have := (HBC.out x.1 (by rw [← HM2.out]; exact List.mem_map_of_mem hx)).2; omega)
  obtain ⟨L, hL⟩ : ∃ L, (docR cs2 ss2).1 = L := ⟨_, rfl⟩
  obtain ⟨n, hn⟩ : ∃ n, (docR cs2 ss2).2 = n := ⟨_, rfl⟩
  have hwd := writeR_doc (ss := ss2) (fun c hc => (HBC.out c hc).2)
  have HWR : Hid (∀ w' u0 u1 gs, Below w.heap.size w w' → UnAt w' w'.heap.size u0 u1 gs ss2 → gs.map (fun x => x.1) = cs2 → Calls Tryz.prog 15 #[.agg #[u0, u1]] w' fun e w'' => e = .returned (.tuple #[.string (mkB L), .int .i64 n]) ∧ Below w'.heap.size w' w'') := Lib.hid (fun w' u0 u1 gs hb hu hg => by
    have hgl : gs.length ≤ 12 := by have := congrArg List.length hg; rw [List.length_map] at this; omega
    have h := write_any w' u0 u1 gs ss2 hu (by omega) (by omega) (fun x hx => (HBC.out x.1 (by rw [← hg]; exact List.mem_map_of_mem hx)).1) HBS.out (fun w2 h2 => HMX.out w2 (hb.trans (h2.mono hb.size)))
    rw [hg, hwd, hL, hn] at h
    exact h)
  have HWD : Hid (∀ w', Below W4.heap.size W4 w' → Calls Tryz.prog 17 #[.agg #[.slice A3 fs2.length c3, .slice A4 ss2.length c4]] w' fun e w'' => e = .returned (.tuple #[.string (mkB L), .int .i64 n]) ∧ Below w'.heap.size w' w'') := Lib.hid (fun w' hb => by
    have h := rwrite_any w' _ _ fs2 ss2 (HU4.out.up2 hb) (by omega) (by omega) HBD2.out HBS.out
    rw [HM2.out, hL, hn] at h
    exact h)
  have HLN := Lib.hid (And.intro hL hn)
  clear hL hn hwd
  go_upto_region 5 with (first
    | (go_at_call 16; refine how.mono ?_; rintro e w5 ⟨hb5, fs3, A5, c5, A6, c6, rfl, hmap, hC, hF, hX⟩; clear how
       have hwr := HWR.out w5 _ _ fs3 (HB4.out.trans (hb5.mono HB4.out.size)) (UnAt.prog hC hF hX) (by rw [hmap]; exact HM2.out))
    | (go_at_call 15; refine hwr.mono ?_; rintro e w6 ⟨rfl, hb6⟩; clear hwr))
  have hb46 : Below W4.heap.size W4 w6 := hb5.trans (hb6.mono hb5.size)
  have HB6 := Lib.hid hb46
  have HQ6 := Lib.hid ((hb46.block _ (lt_of_blk HQ4.out)).trans HQ4.out)
  clear hb5 hb6 hb46 hmap hC hF hX f4 l4
  have f6 := cells2V HQ6.out
  have l6 := lt_of_blk HQ6.out
  have hwd := HWD.out w6 HB6.out
  go_upto_region 6 with (go_at_call 17; refine hwd.mono ?_; rintro e w7 ⟨rfl, hb7⟩; clear hwd)
  have hb47 : Below W4.heap.size W4 w7 := HB6.out.trans (hb7.mono HB6.out.size)
  have HB7a := Lib.hid hb47
  clear hb7 hb47 f6 l6 HQ6 HB6 HWD
  by_cases hn0 : n = 0
  case neg =>
    have hq0 : (n == 0) = false := beq_eq_false_iff_ne.2 hn0
    have hqn : (n != 0) = true := by simp [bne, hq0]
    have hqq : (n != n) = false := by simp
    clear hn0
    go_wp2_with fail
    go_ret
    exact ⟨rfl, HB4.out.trans (HB7a.out.mono HB4.out.size)⟩
  subst hn0
  obtain ⟨g1, g2, g3, g4⟩ := docR_ok (fun c hc => (HBC.out c hc).2) HLN.out.2
  have hLe : L = unitW cs2 ss2 := by rw [← HLN.out.1, g4]
  obtain ⟨ds, xs, hrt, hds, hxs⟩ := unit_back g1 g2 g3
  have hLs : L.length ≤ 65536 := by rw [hLe]; exact g1
  rw [← hLe] at hrt
  have HBK := Lib.hid (And.intro hds hxs)
  have hdl : ds.length ≤ 12 := by have := congrArg List.length hds; rw [List.length_map, List.length_map] at this; omega
  have hxl : xs.length ≤ 12 := by have := congrArg List.length hxs; rw [List.length_map, List.length_map] at this; omega
  have hrd : Calls Tryz.prog 18 #[.string (mkB L)] w7 (fun e w' => Below w7.heap.size w7 w' ∧ ∃ fs4 z0 z1, fs4.map (fun x => x.1) = ds ∧ UnAt w' w'.heap.size z0 z1 fs4 xs ∧ e = .returned (.tuple #[.agg #[z0, z1], .int .i64 0, .int .i64 0])) := by
    have h := HK.out (mkB L) w7 (by rw [mkL_size]; exact hLs) (HB4.out.trans (HB7a.out.mono HB4.out.size))
    rw [hrt] at h
    exact h
  have HBD4 := Lib.hid (show ∀ c ∈ ds, BdN c from fun c hc => by
    obtain ⟨d, hd, e⟩ := mem_map_eq hds hc
    exact bdN_nC e (HBC.out d hd).1)
  have HBX4 := Lib.hid (show ∀ x ∈ xs, BdS x from fun x hx => by
    obtain ⟨y, hy, e⟩ := mem_map_eq hxs hx
    exact bdS_nS e (HBS.out y hy))
  have HWB0 := Lib.hid (show writeR ds xs = (L, 0) from by rw [writeR_same hds hxs, writeR_doc (ss := ss2) (fun c hc => (HBC.out c hc).2), g4, hLe])
  clear g1 g2 g3 g4 hLe hrt hds hxs HLN HWR HK
  go_upto_region 11 with (go_at_call 18; refine hrd.mono ?_; rintro e w8 ⟨hb8, fs4, z0, z1, hf4, hun8, rfl⟩; clear hrd
                          have hun9 := hun8
                          obtain ⟨⟨A7, c7, rfl, -, -⟩, ⟨A8, c8, rfl, -, -⟩, -⟩ := hun9)
  obtain ⟨W7, hW7⟩ : ∃ W7, w8.alloc (.cells #[.slice A7 fs4.length c7, .slice A8 xs.length c8] 53) = W7 := ⟨_, rfl⟩
  have hq7 : W7.heap[w8.heap.size]? = some (.cells #[.slice A7 fs4.length c7, .slice A8 xs.length c8] 53 (0, 0)) := by rw [← hW7]; exact heap_alloc_new _ _
  have hbW : Below w8.heap.size w8 W7 := by rw [← hW7]; exact (Below.refl _ _).alloc (Nat.le_refl _) _
  have HX7 := Lib.hid (hun8.up2 hbW)
  have hb47 : Below W4.heap.size W4 W7 := HB7a.out.trans ((hb8.trans (hbW.mono hb8.size)).mono HB7a.out.size)
  have HB74 := Lib.hid hb47
  have HB7 := Lib.hid (HB4.out.trans (hb47.mono HB4.out.size))
  have HQ4b := Lib.hid ((hb47.block _ (lt_of_blk HQ4.out)).trans HQ4.out)
  have HF4 := Lib.hid hf4
  have HQ7 := Lib.hid hq7
  have HD4 := Lib.hid (show ∀ y ∈ fs4, BdC y from fun y hy => HBD4.out y.1 (by rw [← hf4]; exact List.mem_map_of_mem hy))
  obtain ⟨P, hP⟩ : ∃ P, w8.heap.size = P := ⟨_, rfl⟩
  rw [hP] at HQ7
  have hf4l : fs4.length ≤ 12 := by have := congrArg List.length hf4; rw [List.length_map] at this; omega
  have HF8 : Hid (∀ x ∈ fs4, x.1.2.2.1.length ≤ 8) := Lib.hid (fun x hx => by
    have h5 : x.1 ∈ ds := (by rw [← HF4.out]; exact List.mem_map_of_mem hx)
    obtain ⟨d, hd, e⟩ := mem_map_eq HBK.out.1 h5
    have h6 := (HBC.out d hd).2
    unfold nC at e
    injection e with _ e
    injection e with _ e
    rw [e]; exact h6)
  have HTz : Hid (∀ w', Below W7.heap.size W7 w' → Calls Tryz.prog 20 #[.agg #[.slice A7 fs4.length c7, .slice A8 xs.length c8]] w' (ToldPost w' fs4 xs)) := Lib.hid (fun w' hb => told_any w' _ _ fs4 xs (HX7.out.up2 hb) (by omega) (fun x hx => by have := HF8.out x hx; omega))
  have HSz : Hid (∀ w', Below W7.heap.size W7 w' → (fun w' : World => w'.cell? ⟨P, 0, none⟩ = some (.slice A7 fs4.length c7) ∧ w'.cell? ⟨P, 1, none⟩ = some (.slice A8 xs.length c8) ∧ w'.cell? ⟨T, 0, none⟩ = some (.slice A3 fs2.length c3) ∧ w'.cell? ⟨T, 1, none⟩ = some (.slice A4 ss2.length c4)) w') := Lib.hid (fun w' hb => by
    have f2 := cells2V ((hb.block _ (lt_of_blk HQ7.out)).trans HQ7.out)
    have f3 := cells2V ((hb.block _ (lt_of_blk HQ4b.out)).trans HQ4b.out)
    exact ⟨f2.1, f2.2.1, f3.1, f3.2.1⟩)
  have HWB : Hid (∀ w', Below W7.heap.size W7 w' → Calls Tryz.prog 15 #[.agg #[.slice A7 fs4.length c7, .slice A8 xs.length c8]] w' fun e w'' => e = .returned (.tuple #[.string (mkB L), .int .i64 0]) ∧ Below w'.heap.size w' w'') := Lib.hid (fun w' hb => by
    have h := write_any w' _ _ fs4 xs (HX7.out.up2 hb) (by omega) (by omega) HD4.out HBX4.out (fun w2 h2 => HMX.out w2 ((HB7.out.trans (hb.mono HB7.out.size)).trans (h2.mono (Nat.le_trans HB7.out.size hb.size))))
    rw [HF4.out, HWB0.out] at h
    exact h)
  try rw [hW7]
  try simp only [hP]
  clear hW7 hq7 hbW hun8 hb47 hb8 hf4 hP
  have HB_v0 := Lib.hid (show Below W7.heap.size W7 W7.drew from (Below.refl _ _).drew)
  have hS : (fun w' : World => w'.cell? ⟨P, 0, none⟩ = some (.slice A7 fs4.length c7) ∧ w'.cell? ⟨P, 1, none⟩ = some (.slice A8 xs.length c8) ∧ w'.cell? ⟨T, 0, none⟩ = some (.slice A3 fs2.length c3) ∧ w'.cell? ⟨T, 1, none⟩ = some (.slice A4 ss2.length c4)) W7.drew := HSz.out _ HB_v0.out
  obtain ⟨v0, hv0⟩ : ∃ x, W7.drew = x := ⟨_, rfl⟩
  refine wp_region_noPanic ?_
  refine wp_region_held_drew (S := (fun w' : World => w'.cell? ⟨P, 0, none⟩ = some (.slice A7 fs4.length c7) ∧ w'.cell? ⟨P, 1, none⟩ = some (.slice A8 xs.length c8) ∧ w'.cell? ⟨T, 0, none⟩ = some (.slice A3 fs2.length c3) ∧ w'.cell? ⟨T, 1, none⟩ = some (.slice A4 ss2.length c4))) (by kernel_rfl) hS (fun hHeld => ?_)
  rw [hv0] at HB_v0 hHeld ⊢
  clear hS hv0
  refine wpAnyH_take (i := 0) (v := ?_) (by first | (simp only [List.getElem?_toArray, List.getElem?_cons_succ, List.getElem?_cons_zero]; rfl) | rfl) (by kernel_rfl) (by kernel_rfl) (by kernel_rfl) (fun _ _ _ h => h) (Or.inl ⟨by rfl, ?_⟩) (by assumption) ?_
  rotate_left 1
  · (intro w' hSw; (try dsimp only at hSw); go_simp; (try with_reducible rfl))
  try simp only [Act.put, List.setIfInBounds_toArray, List.set_cons_zero, List.set_cons_succ]
  refine wpAnyH_take (i := 1) (v := ?_) (by first | (simp only [List.getElem?_toArray, List.getElem?_cons_succ, List.getElem?_cons_zero]; rfl) | rfl) (by kernel_rfl) (by kernel_rfl) (by kernel_rfl) (fun _ _ _ h => h) (Or.inl ⟨by rfl, ?_⟩) (by assumption) ?_
  rotate_left 1
  · (intro w' hSw; (try dsimp only at hSw); go_simp; (try with_reducible rfl))
  try simp only [Act.put, List.setIfInBounds_toArray, List.set_cons_zero, List.set_cons_succ]
  refine wpAnyH_take (i := 2) (v := ?_) (by first | (simp only [List.getElem?_toArray, List.getElem?_cons_succ, List.getElem?_cons_zero]; rfl) | rfl) (by kernel_rfl) (by kernel_rfl) (by kernel_rfl) (fun _ _ _ h => h) (Or.inl ⟨by rfl, ?_⟩) (by assumption) ?_
  rotate_left 1
  · (intro w' hSw; (try dsimp only at hSw); go_simp; (try with_reducible rfl))
  try simp only [Act.put, List.setIfInBounds_toArray, List.set_cons_zero, List.set_cons_succ]
  refine wpAnyH_take (i := 3) (v := ?_) (by first | (simp only [List.getElem?_toArray, List.getElem?_cons_succ, List.getElem?_cons_zero]; rfl) | rfl) (by kernel_rfl) (by kernel_rfl) (by kernel_rfl) (fun _ _ _ h => h) (Or.inl ⟨by rfl, ?_⟩) (by assumption) ?_
  rotate_left 1
  · (intro w' hSw; (try dsimp only at hSw); go_simp; (try with_reducible rfl))
  try simp only [Act.put, List.setIfInBounds_toArray, List.set_cons_zero, List.set_cons_succ]
  refine wpAnyH_take (i := 4) (v := ?_) (by first | (simp only [List.getElem?_toArray, List.getElem?_cons_succ, List.getElem?_cons_zero]; rfl) | rfl) (by kernel_rfl) (by kernel_rfl) (by kernel_rfl) (fun _ _ _ h => h) (Or.inl ⟨by rfl, ?_⟩) (by assumption) ?_
  rotate_left 1
  · (intro w' hSw; (try dsimp only at hSw); go_simp; (try with_reducible rfl))
  try simp only [Act.put, List.setIfInBounds_toArray, List.set_cons_zero, List.set_cons_succ]
  refine wpAnyH_take (i := 5) (v := ?_) (by first | (simp only [List.getElem?_toArray, List.getElem?_cons_succ, List.getElem?_cons_zero]; rfl) | rfl) (by kernel_rfl) (by kernel_rfl) (by kernel_rfl) (fun _ _ _ h => h) (Or.inl ⟨by rfl, ?_⟩) (by assumption) ?_
  rotate_left 1
  · (intro w' hSw; (try dsimp only at hSw); go_simp; (try with_reducible rfl))
  try simp only [Act.put, List.setIfInBounds_toArray, List.set_cons_zero, List.set_cons_succ]
  refine wpAnyH_take (i := 6) (v := ?_) (by first | (simp only [List.getElem?_toArray, List.getElem?_cons_succ, List.getElem?_cons_zero]; rfl) | rfl) (by kernel_rfl) (by kernel_rfl) (by kernel_rfl) (fun _ _ _ h => h) (Or.inl ⟨by rfl, ?_⟩) (by assumption) ?_
  rotate_left 1
  · (intro w' hSw; (try dsimp only at hSw); go_simp; (try with_reducible rfl))
  try simp only [Act.put, List.setIfInBounds_toArray, List.set_cons_zero, List.set_cons_succ]
  refine wpAnyH_take (i := 7) (v := ?_) (by first | (simp only [List.getElem?_toArray, List.getElem?_cons_succ, List.getElem?_cons_zero]; rfl) | rfl) (by kernel_rfl) (by kernel_rfl) (by kernel_rfl) (fun _ _ _ h => h) (Or.inl ⟨by rfl, ?_⟩) (by assumption) ?_
  rotate_left 1
  · (intro w' hSw; (try dsimp only at hSw); go_simp; (try with_reducible rfl))
  try simp only [Act.put, List.setIfInBounds_toArray, List.set_cons_zero, List.set_cons_succ]
  refine wpAnyH_take (i := 9) (v := ?_) (by first | (simp only [List.getElem?_toArray, List.getElem?_cons_succ, List.getElem?_cons_zero]; rfl) | rfl) (by kernel_rfl) (by kernel_rfl) (by kernel_rfl) (fun _ _ _ h => h) (Or.inl ⟨by rfl, ?_⟩) (by assumption) ?_
  rotate_left 1
  · (intro w' hSw; (try dsimp only at hSw); go_simp; (try with_reducible rfl))
  try simp only [Act.put, List.setIfInBounds_toArray, List.set_cons_zero, List.set_cons_succ]
  refine wpAnyH_ready (rs := [8]) (by kernel_rfl) (by simp) ?_
  refine AllReadyH.cons (by first | (simp only [List.getElem?_toArray, List.getElem?_cons_succ, List.getElem?_cons_zero]; rfl) | rfl) (fun K hK => ?_) AllReadyH.nil
  go_simp
  refine (HTz.out v0 HB_v0.out).mono ?_
  rintro e v1 ⟨hb, k2, B, dd, E, g, rfl, hmap, hC, hF, hX⟩
  dsimp only
  have HB_v1 := Lib.hid (HB_v0.out.trans (hb.mono HB_v0.out.size))
  have HSm := Lib.hid (same_true v1 _ _ _ _ k2 fs2 xs ss2 (UnAt.doc hC hF hX) (HU4.out.up2 (HB74.out.trans (HB_v1.out.mono HB74.out.size))) (by rw [map_nA k2, hmap, HF4.out, map_nA fs2, HM2.out]; exact HBK.out.1) HBK.out.2 (by have := congrArg List.length hmap; simp at this; omega) (fun x hx => by have h9 : x.1 ∈ fs4.map (fun x => x.1) := (by rw [← hmap]; exact List.mem_map_of_mem hx); obtain ⟨y, hy, e⟩ := List.mem_map.1 h9; have h8 := HF8.out y hy; rw [← e]; omega))
  clear hb hmap hC hF hX
  refine hK.out _ _ (HSz.out _ HB_v1.out) (fun hHeld => ?_)
  clear hK K
  try simp only [Act.put, List.setIfInBounds_toArray, List.set_cons_zero, List.set_cons_succ]
  refine wpAnyH_ready (rs := [10]) (by kernel_rfl) (by simp) ?_
  refine AllReadyH.cons (by first | (simp only [List.getElem?_toArray, List.getElem?_cons_succ, List.getElem?_cons_zero]; rfl) | rfl) (fun K hK => ?_) AllReadyH.nil
  go_simp
  refine HSm.out.mono ?_
  rintro e v2 ⟨rfl, hb⟩
  dsimp only
  have HB_v2 := Lib.hid (HB_v1.out.trans (hb.mono HB_v1.out.size))
  clear hb
  refine hK.out _ _ (HSz.out _ HB_v2.out) (fun hHeld => ?_)
  clear hK K
  try simp only [Act.put, List.setIfInBounds_toArray, List.set_cons_zero, List.set_cons_succ]
  refine wpAnyH_take (i := 11) (v := ?_) (by first | (simp only [List.getElem?_toArray, List.getElem?_cons_succ, List.getElem?_cons_zero]; rfl) | rfl) (by kernel_rfl) (by kernel_rfl) (by kernel_rfl) (fun _ _ _ h => h) (Or.inl ⟨by rfl, ?_⟩) (by assumption) ?_
  rotate_left 1
  · (intro w' hSw; (try dsimp only at hSw); go_simp; (try with_reducible rfl))
  try simp only [Act.put, List.setIfInBounds_toArray, List.set_cons_zero, List.set_cons_succ]
  refine wpAnyH_take (i := 12) (v := ?_) (by first | (simp only [List.getElem?_toArray, List.getElem?_cons_succ, List.getElem?_cons_zero]; rfl) | rfl) (by kernel_rfl) (by kernel_rfl) (by kernel_rfl) (fun _ _ _ h => h) (Or.inl ⟨by rfl, ?_⟩) (by assumption) ?_
  rotate_left 1
  · (intro w' hSw; (try dsimp only at hSw); go_simp; (try with_reducible rfl))
  try simp only [Act.put, List.setIfInBounds_toArray, List.set_cons_zero, List.set_cons_succ]
  refine wpAnyH_done (by kernel_rfl) ?_ _
  refine NoPanic.normal ?_
  have HBE := Lib.hid (HB7.out.trans (HB_v2.out.mono HB7.out.size))
  have HQE := Lib.hid ((HB_v2.out.block _ (lt_of_blk HQ7.out)).trans HQ7.out)
  have HUE := Lib.hid (HX7.out.up2 HB_v2.out)
  clear hHeld
  have hwe := HWB.out v2 HB_v2.out
  have fE := cells2V HQE.out
  have lE := lt_of_blk HQE.out
  go_wp2_with (go_at_call 15; refine hwe.mono ?_; rintro e w9 ⟨rfl, hb9⟩; clear hwe)
  go_ret
  exact ⟨rfl, HBE.out.trans (hb9.mono HBE.out.size)⟩
end Go.Proofs.YtmdkneollidkfaaGreatDoor.Fl
