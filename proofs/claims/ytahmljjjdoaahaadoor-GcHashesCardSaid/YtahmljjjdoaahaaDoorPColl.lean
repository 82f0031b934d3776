/-
  What can be reached, of memory that has moved: the same, in the same order.
-/
import Derived.Test.YtahmljjjdoaahaaDoorPReach
import Derived.Test.YtahmljjjdoaahaaDoorPDoc
namespace Go.Proofs.YtahmljjjdoaahaaDoor.Fl
open Go.RowKit

/-- g takes what is found in one memory to what is found in another -/
structure Moves (g : Nat → Nat) (K : Nat → Prop) (ld ld' : Nat → List Nat) (ws ws' : List Nat) : Prop where
  num : ∀ x, ¬ isW x → g x = x
  ptr : ∀ x, K x → isW (g x) ∧ isP ws' (g x)
  inj : ∀ x y, K x → K y → g x = g y → x = y
  led : ∀ x, K x → ld' (g x) = (ld x).map g
  shut : ∀ x, K x → ∀ y ∈ ld x, isW y → K y
section
variable {g : Nat → Nat} {K : Nat → Prop} {ld ld' : Nat → List Nat} {ws ws' : List Nat}
theorem Moves.mem (h : Moves g K ld ld' ws ws') {fs : List Nat} {x : Nat} (hf : ∀ p ∈ fs, K p) (hx : K x) : g x ∈ fs.map g ↔ x ∈ fs := by
  rw [List.mem_map]
  constructor
  · rintro ⟨y, hy, e⟩
    rw [← h.inj _ _ (hf y hy) hx e]; exact hy
  · exact fun hm => ⟨x, hm, rfl⟩
theorem Moves.find1 (h : Moves g K ld ld' ws ws') {fs fs' : List Nat} {x : Nat} (hf : ∀ p ∈ fs, K p) (hx : isW x → K x) (he : find1 ws fs x = some fs') : find1 ws' (fs.map g) (g x) = some (fs'.map g) ∧ ∀ p ∈ fs', K p := by
  by_cases hw : isW x
  · have hk := hx hw
    obtain ⟨p1, p2⟩ := h.ptr x hk
    have hm := h.mem hf hk
    unfold Fl.find1 at he ⊢
    have hw' : ¬ (x = 0 ∨ x % 2 = 1) := hw
    have p1' : ¬ (g x = 0 ∨ g x % 2 = 1) := p1
    rw [if_neg hw'] at he
    rw [if_neg p1', if_pos p2]
    split at he
    · split at he
      · next h2 =>
        injection he with he; subst he
        rw [if_pos (hm.2 h2)]; exact ⟨rfl, hf⟩
      · next h2 =>
        injection he with he; subst he
        rw [if_neg (fun h3 => h2 (hm.1 h3)), List.map_append]
        refine ⟨rfl, fun p hp => ?_⟩
        rcases List.mem_append.1 hp with hp | hp
        · exact hf p hp
        · rw [List.mem_singleton] at hp; subst hp; exact hk
    · cases he
  · have e := h.num x hw
    have hw' : x = 0 ∨ x % 2 = 1 := Decidable.not_not.1 hw
    unfold Fl.find1 at he ⊢
    rw [if_pos hw'] at he
    injection he with he; subst he
    rw [e, if_pos hw']; exact ⟨rfl, hf⟩
theorem Moves.findL (h : Moves g K ld ld' ws ws') : ∀ {xs fs fs' : List Nat}, (∀ p ∈ fs, K p) → (∀ x ∈ xs, isW x → K x) → findL ws fs xs = some fs' → findL ws' (fs.map g) (xs.map g) = some (fs'.map g) ∧ ∀ p ∈ fs', K p
  | [], fs, fs', hf, _, he => by
    rw [Fl.findL] at he; injection he with he; subst he
    exact ⟨rfl, hf⟩
  | x :: xs, fs, fs', hf, hx, he => by
    obtain ⟨f1, h1, h2⟩ := findL_cons he
    obtain ⟨a1, a2⟩ := h.find1 hf (hx x (by simp)) h1
    obtain ⟨b1, b2⟩ := h.findL a2 (fun y hy => hx y (by simp [hy])) h2
    refine ⟨?_, b2⟩
    rw [List.map_cons, Fl.findL, a1]; exact b1
theorem Moves.askL (h : Moves g K ld ld' ws ws') : ∀ {ps fs fs' : List Nat}, (∀ p ∈ fs, K p) → (∀ p ∈ ps, K p) → askL ld ws fs ps = some fs' → askL ld' ws' (fs.map g) (ps.map g) = some (fs'.map g) ∧ ∀ p ∈ fs', K p
  | [], fs, fs', hf, _, he => by
    rw [Fl.askL] at he; injection he with he; subst he
    exact ⟨rfl, hf⟩
  | p :: ps, fs, fs', hf, hx, he => by
    obtain ⟨f1, h1, h2⟩ := askL_cons he
    obtain ⟨a1, a2⟩ := h.findL hf (fun y hy hw => h.shut p (hx p (by simp)) y hy hw) h1
    obtain ⟨b1, b2⟩ := h.askL a2 (fun y hy => hx y (by simp [hy])) h2
    refine ⟨?_, b2⟩
    rw [List.map_cons, Fl.askL, h.led p (hx p (by simp)), a1]; exact b1
theorem Moves.waves (h : Moves g K ld ld' ws ws') {fs0 : List Nat} {S : Nat → List Nat × Nat} {T : Nat} (h0 : ∀ p ∈ fs0, K p) (hS : Waves ld ws fs0 S T) : Waves ld' ws' (fs0.map g) (fun t => ((S t).1.map g, (S t).2)) T ∧ ∀ p ∈ (S T).1, K p := by
  have key : ∀ t, t ≤ T → ∀ p ∈ (S t).1, K p := by
    intro t
    induction t with
    | zero => intro _; rw [hS.zero]; exact h0
    | succ t ih =>
      intro ht
      obtain ⟨s1, s2, s3⟩ := hS.step t (by omega)
      exact (h.askL (ih (by omega)) (fun p hp => ih (by omega) p (List.mem_of_mem_drop hp)) s2).2
  refine ⟨⟨by rw [hS.zero], fun t ht => ?_, by rw [hS.stop, List.length_map]⟩, key T (Nat.le_refl _)⟩
  obtain ⟨s1, s2, s3⟩ := hS.step t ht
  have := h.askL (key t (by omega)) (fun p hp => key t (by omega) p (List.mem_of_mem_drop hp)) s2
  refine ⟨by rw [List.length_map]; exact s1, ?_, by rw [s3, List.length_map]⟩
  rw [← List.map_drop]; exact this.1
end
end Go.Proofs.YtahmljjjdoaahaaDoor.Fl

/-
  What stays of memory, moved together: the objects, their places, their words.
-/
namespace Go.Proofs.YtahmljjjdoaahaaDoor.Fl
open Go.RowKit

/-- some of the objects, in that order -/
def sub (os : List Ob) (ks : List Nat) : List Ob := ks.filterMap fun k => os[k]?
/-- what a word becomes -/
def goal (os : List Ob) (ks : List Nat) (x : Nat) : Nat := if x = 0 ∨ x % 2 = 1 then x else 2 * pos (sub os ks) (ks.idxOf (idx os x))
def turnO (g : Nat → Nat) (o : Ob) : Ob := { o with cl := g o.cl, xs := if o.kind = 2 then o.xs else o.xs.map g }
def moved (os : List Ob) (ks : List Nat) : List Ob := (sub os ks).map (turnO (goal os ks))
theorem turnO_len (g : Nat → Nat) (o : Ob) : (turnO g o).xs.length = o.xs.length := by
  unfold turnO
  show (if o.kind = 2 then o.xs else o.xs.map g).length = _
  split
  · rfl
  · rw [List.length_map]
theorem Lof_map_len (f : Ob → Ob) (hf : ∀ o, (f o).xs.length = o.xs.length) (os : List Ob) : (Lof (os.map f)).length = (Lof os).length := by
  unfold Lof flat
  induction os with
  | nil => rfl
  | cons o t ih =>
    simp only [List.map_cons, List.flatMap_cons, List.length_cons, List.length_append, Ob.cells_len, hf] at ih ⊢
    omega
theorem pos_map (f : Ob → Ob) (hf : ∀ o, (f o).xs.length = o.xs.length) (os : List Ob) (k : Nat) : pos (os.map f) k = pos os k := by
  unfold pos
  rw [← List.map_take, Lof_map_len f hf]
theorem pos_moved (os : List Ob) (ks : List Nat) (k : Nat) : pos (moved os ks) k = pos (sub os ks) k := pos_map _ (turnO_len _) _ _
/-- indices of objects, each once -/
structure Ks (os : List Ob) (ks : List Nat) : Prop where
  nd : ks.Nodup
  lt : ∀ k ∈ ks, k < os.length
section
variable {os : List Ob} {ks : List Nat}
theorem sub_eq (h : ∀ k ∈ ks, k < os.length) : sub os ks = ks.attach.map (fun k => os[k.1]'(h _ k.2)) := by
  unfold sub
  induction ks with
  | nil => rfl
  | cons k t ih =>
    rw [List.filterMap_cons, List.getElem?_eq_getElem (h k (by simp)), ih (fun j hj => h j (by simp [hj]))]
    simp [List.attach_cons]
theorem sub_len (h : Ks os ks) : (sub os ks).length = ks.length := by rw [sub_eq h.lt]; simp
theorem sub_get (h : Ks os ks) {j : Nat} (hj : j < ks.length) : (sub os ks)[j]? = some (os[ks[j]]'(h.lt _ (List.getElem_mem hj))) := by
  rw [sub_eq h.lt]; simp [hj]
theorem moved_len (h : Ks os ks) : (moved os ks).length = ks.length := by unfold moved; rw [List.length_map, sub_len h]
theorem moved_get (h : Ks os ks) {j : Nat} (hj : j < ks.length) : (moved os ks)[j]? = some (turnO (goal os ks) (os[ks[j]]'(h.lt _ (List.getElem_mem hj)))) := by
  unfold moved; rw [List.getElem?_map, sub_get h hj]; rfl
theorem idxOf_at (h : ks.Nodup) {j : Nat} (hj : j < ks.length) : ks.idxOf ks[j] = j := by
  have hm : ks.idxOf ks[j] < ks.length := List.idxOf_lt_length_iff.2 (List.getElem_mem hj)
  have e : ks[ks.idxOf ks[j]] = ks[j] := List.getElem_idxOf hm
  rcases Nat.lt_trichotomy (ks.idxOf ks[j]) j with h1 | h1 | h1
  · exact absurd e (List.pairwise_iff_getElem.1 h _ _ hm hj h1)
  · exact h1
  · exact absurd e.symm (List.pairwise_iff_getElem.1 h _ _ hj hm h1)
theorem goal_num (x : Nat) (h : ¬ isW x) : goal os ks x = x := by
  unfold goal; rw [if_pos (Decidable.not_not.1 h)]
theorem isW_pos (os : List Ob) (k : Nat) : isW (2 * pos os k) := by
  have := pos_two os k
  unfold isW; omega
theorem goal_at (h : Ks os ks) {j : Nat} (hj : j < ks.length) : goal os ks (2 * pos os ks[j]) = 2 * pos (moved os ks) j := by
  unfold goal
  rw [if_neg (isW_pos os _), idx_pos os (h.lt _ (List.getElem_mem hj)), idxOf_at h.nd hj, pos_moved]
/-- what stays -/
def Kept (os : List Ob) (ks : List Nat) (x : Nat) : Prop := ∃ k ∈ ks, x = 2 * pos os k
theorem kept_at (h : Ks os ks) {x : Nat} (hx : Kept os ks x) : ∃ j, ∃ hj : j < ks.length, x = 2 * pos os ks[j] ∧ goal os ks x = 2 * pos (moved os ks) j := by
  obtain ⟨k, hk, rfl⟩ := hx
  obtain ⟨j, hj, rfl⟩ := List.mem_iff_getElem.1 hk
  exact ⟨j, hj, rfl, goal_at h hj⟩
/-- whatever is led to stays -/
def Shut (os : List Ob) (ks : List Nat) : Prop := ∀ k (hk : k < os.length), k ∈ ks → ∀ y ∈ os[k].leads, isW y → Kept os ks y
theorem turn_leads (g : Nat → Nat) (o : Ob) : (turnO g o).leads = o.leads.map g := by
  unfold turnO Ob.leads
  show g o.cl :: (if o.kind = 2 then [] else (if o.kind = 2 then o.xs else o.xs.map g)) = _
  by_cases h : o.kind = 2
  · rw [if_pos h, if_pos h]; rfl
  · rw [if_neg h, if_neg h, if_neg h]; rfl
theorem moved_moves (h : Ks os ks) (hs : Shut os ks) {ws ws' : List Nat} (hp : ∀ p, isP ws' p ↔ ∃ k, k < (moved os ks).length ∧ p = 2 * pos (moved os ks) k) :
    Moves (goal os ks) (Kept os ks) (ldOf os) (ldOf (moved os ks)) ws ws' := by
  refine ⟨fun x hx => goal_num x hx, fun x hx => ?_, fun x y hx hy e => ?_, fun x hx => ?_, fun x hx y hy hw => ?_⟩
  · obtain ⟨j, hj, rfl, e⟩ := kept_at h hx
    rw [e]
    exact ⟨isW_pos _ _, (hp _).2 ⟨j, by rw [moved_len h]; exact hj, rfl⟩⟩
  · obtain ⟨i, hi, rfl, e1⟩ := kept_at h hx
    obtain ⟨j, hj, rfl, e2⟩ := kept_at h hy
    have : i = j := pos_inj (moved os ks) (by rw [moved_len h]; exact hi) (by rw [moved_len h]; exact hj) (by omega)
    subst this; rfl
  · obtain ⟨j, hj, rfl, e⟩ := kept_at h hx
    have hk := h.lt _ (List.getElem_mem hj)
    rw [e, ldOf_pos (moved os ks) (by rw [moved_len h]; exact hj), ldOf_pos os hk]
    have := moved_get h hj
    rw [List.getElem?_eq_getElem (by rw [moved_len h]; exact hj)] at this
    injection this with this
    rw [this, turn_leads]
  · obtain ⟨j, hj, rfl, e⟩ := kept_at h hx
    have hk := h.lt _ (List.getElem_mem hj)
    rw [ldOf_pos os hk] at hy
    exact hs _ hk (List.getElem_mem hj) y hy hw
theorem moved_ok (h : Ks os ks) (hs : Shut os ks) (hok : ∀ o ∈ os, o.Ok) (hb : (Lof (sub os ks)).length ≤ 16777216) : ∀ o ∈ moved os ks, o.Ok := by
  intro o ho
  obtain ⟨j, hj, rfl⟩ := List.mem_iff_getElem.1 ho
  have hj' : j < ks.length := by rw [moved_len h] at hj; exact hj
  have e := moved_get h hj'
  rw [List.getElem?_eq_getElem hj] at e
  injection e with e
  rw [e]
  have hk := h.lt _ (List.getElem_mem hj')
  have ho := hok _ (List.getElem_mem hk)
  have hsub := hs _ hk (List.getElem_mem hj')
  generalize os[ks[j]] = o at ho hsub
  have gl : ∀ x, Kept os ks x → goal os ks x < 33554432 ∧ isW (goal os ks x) := fun x hx => by
    obtain ⟨i, hi, rfl, e1⟩ := kept_at h hx
    have h1 := pos_top (moved os ks) (k := i) (by rw [moved_len h]; exact hi)
    have h2 : (Lof (moved os ks)).length = (Lof (sub os ks)).length := Lof_map_len _ (turnO_len _) _
    rw [e1]
    exact ⟨by omega, isW_pos _ _⟩
  have hcl : isW o.cl := by
    have := (hErr_ok ho.ok).1
    unfold isW; omega
  obtain ⟨c1, c2⟩ := gl o.cl (hsub _ (by unfold Ob.leads; simp) hcl)
  have hE : hErr (goal os ks o.cl : Nat) o.kind o.sz o.hash = 0 := by
    have h0 := ho.ok
    unfold isW at c2
    unfold hErr at h0 ⊢
    rw [if_neg (by have := (hErr_ok ho.ok).1; omega)] at h0
    rw [if_neg (by omega)]; exact h0
  have hc : cellsI (goal os ks o.cl : Nat) o.kind o.sz o.hash = cellsI o.cl o.kind o.sz o.hash := by
    unfold cellsI
    rw [if_pos hE, if_pos ho.ok]
  refine ⟨hE, by show goal os ks o.cl < _; omega, ?_, ?_⟩
  · show cellsI (goal os ks o.cl : Nat) o.kind o.sz o.hash = _
    rw [hc, turnO_len]; exact ho.len
  · show ∀ x ∈ (if o.kind = 2 then o.xs else o.xs.map (goal os ks)), _
    by_cases h2 : o.kind = 2
    · rw [if_pos h2]; exact ho.xlt
    · rw [if_neg h2]
      intro x hx
      obtain ⟨y, hy, rfl⟩ := List.mem_map.1 hx
      by_cases hw : isW y
      · have := (gl y (hsub y (by unfold Ob.leads; rw [if_neg h2]; simp [hy]) hw)).1
        omega
      · rw [goal_num y hw]; exact ho.xlt y hy
/-- how many cells stay -/
theorem sum_list : ∀ {ks : List Nat}, (∀ k ∈ ks, k < os.length) → sumC (cnOf os) (ks.map fun k => 2 * pos os k) = (flat (sub os ks)).length
  | [], _ => rfl
  | k :: t, h => by
    have hk := h k (by simp)
    have e : sub os (k :: t) = os[k] :: sub os t := by unfold sub; rw [List.filterMap_cons, List.getElem?_eq_getElem hk]
    have e2 : flat (os[k] :: sub os t) = os[k].cells ++ flat (sub os t) := by unfold flat; rw [List.flatMap_cons]
    rw [List.map_cons, sumC, sum_list (fun j hj => h j (by simp [hj])), cnOf_pos os hk, e, e2, List.length_append, Ob.cells_len]; omega
theorem sum_kept (h : Ks os ks) {fs : List Nat} (hn : fs.Nodup) (hm : ∀ x, x ∈ fs ↔ Kept os ks x) : sumC (cnOf os) fs = (flat (sub os ks)).length := by
  have hnd : (ks.map fun k => 2 * pos os k).Nodup := by
    refine List.pairwise_map.2 (h.nd.imp_of_mem ?_)
    intro a b ha hb hne e
    exact hne (pos_inj os (h.lt a ha) (h.lt b hb) (by omega))
  have hmm : ∀ x, x ∈ (ks.map fun k => 2 * pos os k) ↔ x ∈ fs := fun x => by
    rw [hm x, List.mem_map]
    constructor
    · rintro ⟨k, hk, rfl⟩; exact ⟨k, hk, rfl⟩
    · rintro ⟨k, hk, rfl⟩; exact ⟨k, hk, rfl⟩
  have h1 := sumC_sub (cnOf os) _ _ hn (fun x hx => (hmm x).2 hx)
  have h2 := sumC_sub (cnOf os) _ _ hnd (fun x hx => (hmm x).1 hx)
  rw [sum_list h.lt] at h1 h2
  omega
theorem led_shut {ws rs fs : List Nat} (hl : IsLed (ldOf os) ws rs fs) (hk : ∀ x, x ∈ fs ↔ Kept os ks x) : Shut os ks := by
  intro k hk1 hk2 y hy hw
  have h1 : 2 * pos os k ∈ fs := (hk _).2 ⟨k, hk2, rfl⟩
  exact (hk y).1 ((hl.mem y).2 (.step ((hl.mem _).1 h1) (by rw [ldOf_pos os hk1]; exact hy) hw))
end
end Go.Proofs.YtahmljjjdoaahaaDoor.Fl
