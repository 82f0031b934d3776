/-
  Events: their text, and rows of them in memory.
-/
import Derived.Test.YtlmelfakmllinaaPPut
import Derived.Test.YtlmelfakmllinaaLxA
namespace Go.Proofs.Ytlmelfakmllinaa.Fl
open Go.RowKit

/-- an event: its kind, its bytes, its name -/
structure Ev where
  kd : Int
  bs : List UInt8
  nm : List UInt8
/-- an event in a row, and where its bytes stand -/
abbrev EE := Ev × (Option Addr × Nat)
def ee3 (x : EE) : List Value := [.int .i64 x.1.kd, .slice x.2.1 x.1.bs.length x.2.2, .string ⟨x.1.nm.toArray⟩]
def ee_ (l : List EE) : List Value := l.flatMap ee3
theorem ee_len (l : List EE) : (ee_ l).length = l.length * 3 := by
  induction l with
  | nil => rfl
  | cons x l ih =>
    show (ee3 x ++ ee_ l).length = _
    rw [List.length_append, ih]
    simp [ee3]
    omega
theorem ee_app (l m : List EE) : ee_ (l ++ m) = ee_ l ++ ee_ m := List.flatMap_append
theorem ee_one (l : List EE) : ∀ u ∈ ee_ l, u.oneCell' = true := by
  intro u hu
  obtain ⟨x, _, h⟩ := List.mem_flatMap.1 hu
  simp only [ee3, List.mem_cons, List.not_mem_nil, or_false] at h
  rcases h with rfl | rfl | rfl <;> rfl
def EvBs (w : World) (B : Nat) (l : List EE) : Prop := ∀ x ∈ l, Rd w B x.2.1 (cb x.1.bs) ∧ x.1.bs.length ≤ x.2.2 ∧ (x.2.1 = none → x.1.bs = [] ∧ x.2.2 = 0)
theorem EvBs.below {w w' : World} {B B' : Nat} {l : List EE} (h : EvBs w B l) (hb : Below B' w w') (hB : B ≤ B') : EvBs w' B l :=
  fun x hx => ⟨(h x hx).1.below hb hB, (h x hx).2⟩
theorem EvBs.more {w : World} {B B' : Nat} {l : List EE} (h : EvBs w B l) (hB : B ≤ B') : EvBs w B' l :=
  fun x hx => ⟨(h x hx).1.more hB, (h x hx).2⟩
theorem EvBs.app {w : World} {B : Nat} {l m : List EE} (h : EvBs w B l) (k : EvBs w B m) : EvBs w B (l ++ m) :=
  fun x hx => (List.mem_append.1 hx).elim (h x) (k x)
theorem EvBs.nil (w : World) (B : Nat) : EvBs w B [] := fun x hx => by cases hx
theorem ee_at {w : World} {B : Nat} {A : Option Addr} {xs : List EE} (h : Rd w B A (ee_ xs)) {k : Nat} (hk : k < xs.length) :
    ∃ b off, A = some ⟨b, off, none⟩ ∧ b < B ∧ w.cell? ⟨b, off + k * 3, none⟩ = some (.int .i64 xs[k].1.kd) ∧ w.cell? ⟨b, off + k * 3 + 1, none⟩ = some (.slice xs[k].2.1 xs[k].1.bs.length xs[k].2.2) ∧ w.cell? ⟨b, off + k * 3 + 2, none⟩ = some (.string ⟨xs[k].1.nm.toArray⟩) := by
  rcases h with h | ⟨b, off, rfl, hb, hc⟩
  · have := congrArg List.length h
    rw [ee_len] at this
    simp only [List.length_nil] at this
    omega
  · have hat : ∀ (l : List EE) (k : Nat) (h : k < l.length), (ee_ l)[k * 3]? = some (.int .i64 l[k].1.kd) ∧ (ee_ l)[k * 3 + 1]? = some (.slice l[k].2.1 l[k].1.bs.length l[k].2.2) ∧ (ee_ l)[k * 3 + 2]? = some (.string ⟨l[k].1.nm.toArray⟩) := by
      intro l
      induction l with
      | nil => intro k h; exact absurd h (Nat.not_lt_zero _)
      | cons x l ih =>
        intro k h
        cases k with
        | zero => exact ⟨rfl, rfl, rfl⟩
        | succ k =>
          have := ih k (by simpa using h)
          rw [show (k + 1) * 3 = k * 3 + 1 + 1 + 1 by omega, show k * 3 + 1 + 1 + 1 + 1 = (k * 3 + 1) + 1 + 1 + 1 by omega, show k * 3 + 1 + 1 + 1 + 2 = (k * 3 + 2) + 1 + 1 + 1 by omega]
          exact this
    obtain ⟨h0, h1, h2⟩ := hat xs k hk
    exact ⟨b, off, rfl, hb, hc _ _ h0, hc _ _ h1, hc _ _ h2⟩

/-! ### the text -/
def plainB (c : UInt8) : Bool := decide (32 ≤ c.toNat) && decide (c.toNat ≤ 126) && decide (c.toNat ≠ 34) && decide (c.toNat ≠ 92)
def hexB (n : Nat) : UInt8 := UInt8.ofNat (if n < 10 then 48 + n else 87 + n)
def quoB (c : UInt8) : List UInt8 := if plainB c then [c] else [92, hexB (c.toNat / 16), hexB (c.toNat % 16)]
def quoL (l : List UInt8) : List UInt8 := 34 :: (l.flatMap quoB ++ [34])
def lineE (x : Ev) : List UInt8 :=
  if x.kd = 1 then [111, 117, 116, 32] ++ quoL x.bs else if x.kd = 2 then [102, 97, 117, 108, 116, 32] ++ quoL x.nm else if x.kd = 3 then [115, 97, 118, 101, 100] else [63]
def textE (l : List Ev) : List UInt8 := l.flatMap fun x => lineE x ++ [10]
def shownE (l : List Ev) : List UInt8 := l.flatMap fun x => if x.kd = 1 then x.bs else []
def sameE (x y : Ev) : Bool := x.kd == y.kd && lineE x == lineE y
def commE : List Ev → List Ev → Nat
  | x :: l, y :: m => if sameE x y then commE l m + 1 else 0
  | _, _ => 0
theorem quoB_len (c : UInt8) : (quoB c).length ≤ 3 := by
  unfold quoB; split <;> simp
theorem flat_len {α : Type} (f : α → List UInt8) (m : Nat) (l : List α) (h : ∀ x ∈ l, (f x).length ≤ m) : (l.flatMap f).length ≤ l.length * m := by
  induction l with
  | nil => simp
  | cons x l ih =>
    rw [List.flatMap_cons, List.length_append, List.length_cons, Nat.add_mul]
    have := h x (by simp)
    have := ih fun y hy => h y (by simp [hy])
    omega
theorem quoL_len (l : List UInt8) : (quoL l).length ≤ l.length * 3 + 2 := by
  have := flat_len quoB 3 l fun x _ => quoB_len x
  show (34 :: (l.flatMap quoB ++ [34])).length ≤ _
  rw [List.length_cons, List.length_append, List.length_singleton]
  omega
def smallE (x : Ev) : Prop := x.bs.length ≤ 200 ∧ x.nm.length ≤ 200
theorem lineE_len {x : Ev} (h : smallE x) : (lineE x).length ≤ 610 := by
  have h1 := quoL_len x.bs
  have h2 := quoL_len x.nm
  obtain ⟨h3, h4⟩ := h
  unfold lineE
  split
  · simp; omega
  · split
    · simp; omega
    · split <;> simp
theorem textE_len {l : List Ev} (h : ∀ x ∈ l, smallE x) : (textE l).length ≤ l.length * 611 :=
  flat_len _ 611 l fun x hx => by have := lineE_len (h x hx); simp; omega
theorem textE_app (l m : List Ev) : textE (l ++ m) = textE l ++ textE m := List.flatMap_append
theorem shownE_app (l m : List Ev) : shownE (l ++ m) = shownE l ++ shownE m := List.flatMap_append
theorem shownE_len {l : List Ev} (h : ∀ x ∈ l, smallE x) : (shownE l).length ≤ l.length * 200 :=
  flat_len _ 200 l fun x hx => by have := (h x hx).1; split <;> simp <;> omega
theorem commE_self (l m : List Ev) : commE (l ++ m) l = l.length := by
  induction l with
  | nil => cases m <;> rfl
  | cons x l ih => simp [commE, sameE, ih]
theorem commE_le (l m : List Ev) : commE l m ≤ l.length ∧ commE l m ≤ m.length := by
  induction l generalizing m with
  | nil => simp [commE]
  | cons x l ih =>
    cases m with
    | nil => simp [commE]
    | cons y m =>
      have := ih m
      unfold commE
      split <;> simp <;> omega
/-- what own cuts them to -/
def clipE (x : Ev) : Ev := ⟨x.kd, x.bs.take 200, x.nm.take 200⟩
def ownE (l : List Ev) : List Ev := (l.take 20).map clipE
theorem clip_small (x : Ev) : smallE (clipE x) := by
  constructor <;> simp [clipE] <;> omega
theorem ownE_small (l : List Ev) : ∀ x ∈ ownE l, smallE x := fun x hx => by
  obtain ⟨y, _, rfl⟩ := List.mem_map.1 hx
  exact clip_small y
theorem ownE_len (l : List Ev) : (ownE l).length ≤ 20 := by
  simp [ownE]; omega
end Go.Proofs.Ytlmelfakmllinaa.Fl
