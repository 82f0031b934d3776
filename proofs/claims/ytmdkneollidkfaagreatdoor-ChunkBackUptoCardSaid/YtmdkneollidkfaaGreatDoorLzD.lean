/-
  The document's headers.
-/
import Derived.Test.YtmdkneollidkfaaGreatDoorLzA
import Derived.Test.YtmdkneollidkfaaGreatDoorLxJc
namespace Go.Proofs.YtmdkneollidkfaaGreatDoor.Fl
open Go.RowKit

abbrev methL : List UInt8 := [109, 101, 116, 104, 111, 100, 115]
abbrev clsL : List UInt8 := [99, 108, 97, 115, 115]
def isT (x : Tok) (k : Nat) (wd : List UInt8) : Bool := x.1 == k && x.2.1 == wd
/-- a header of tokens: its class, and whether it is the class's class -/
def headL : List Tok → Option (List UInt8 × Bool)
  | [a, b, _] => if a.1 = 1 ∧ isT b 1 methL = true then some (a.2.1, false) else none
  | [a, b, c, _] => if a.1 = 1 ∧ isT b 1 clsL = true ∧ isT c 1 methL = true then some (a.2.1, true) else none
  | _ => none
def headV : Option (List UInt8 × Bool) → Value
  | some (nm, m) => .tuple #[.agg #[.string (mkB nm), .bool m, .string ⟨#[]⟩, .int .i64 0], .bool true]
  | none => .tuple #[.agg #[.string ⟨#[]⟩, .bool false, .string ⟨#[]⟩, .int .i64 0], .bool false]
theorem isT_eq (k : Nat) (wd t : List UInt8) (n : Int) (q kd : Nat) : (((k : Int) == (kd : Int)) && (mkB t).toList == (mkB wd).toList) = isT (k, t, n, q) kd wd := by
  unfold isT
  rw [Bool.eq_iff_iff]
  simp only [Bool.and_eq_true, beq_iff_eq]
  rw [ByteArray.toList_eq, ByteArray.toList_eq]
  constructor
  · rintro ⟨h1, h2⟩
    refine ⟨by omega, ?_⟩
    have := congrArg (fun (l : List UInt8) => l) h2
    simpa using this
  · rintro ⟨h1, h2⟩
    refine ⟨by omega, ?_⟩
    show (mkB t).data.toList = (mkB wd).data.toList
    rw [show t = wd from h2]
/-- what stands while a header is read -/
structure HdW (w0 w : World) (C B : Nat) (A : Option Addr) (xs : List Tok) : Prop where
  res : w.heap[C]? = some (.cells #[.string ⟨#[]⟩, .bool false, .string ⟨#[]⟩, .int .i64 0] 76 (0, 0))
  bel : Below w0.heap.size w0 w
  ne : w0.heap.size ≤ C
  rd : Rd w B A (ct xs)
  le : B ≤ w0.heap.size
theorem HdW.below {w0 w w' : World} {C B : Nat} {A : Option Addr} {xs : List Tok} (h : HdW w0 w C B A xs) (hb : Below w.heap.size w w') : HdW w0 w' C B A xs :=
  ⟨(hb.block C (lt_of_blk h.res)).trans h.res, h.bel.trans (hb.mono h.bel.size), h.ne, h.rd.below hb (Nat.le_trans h.le h.bel.size), h.le⟩
theorem HdW.fin {w0 w : World} {C B : Nat} {A : Option Addr} {xs : List Tok} (h : HdW w0 w C B A xs) (x0 x1 x2 x3 : Value) :
    ((((w.setCell ⟨C, 0, none⟩ x0).setCell ⟨C, 1, none⟩ x1).setCell ⟨C, 2, none⟩ x2).setCell ⟨C, 3, none⟩ x3).heap[C]? = some (.cells #[x0, x1, x2, x3] 76 (0, 0)) ∧
    Below w0.heap.size w0 ((((w.setCell ⟨C, 0, none⟩ x0).setCell ⟨C, 1, none⟩ x1).setCell ⟨C, 2, none⟩ x2).setCell ⟨C, 3, none⟩ x3) :=
  ⟨set4 h.res _ _ _ _, (((h.bel.setCell (p := ⟨C, 0, none⟩) h.ne x0).setCell (p := ⟨C, 1, none⟩) h.ne x1).setCell (p := ⟨C, 2, none⟩) h.ne x2).setCell (p := ⟨C, 3, none⟩) h.ne x3⟩
theorem HdW.make {w : World} {B : Nat} {A : Option Addr} {xs : List Tok} (hr : Rd w B A (ct xs)) (hB : B ≤ w.heap.size) : HdW w (w.alloc (.cells #[.string ⟨#[]⟩, .bool false, .string ⟨#[]⟩, .int .i64 0] 76)) w.heap.size B A xs :=
  have hb0 : Below w.heap.size w (w.alloc (.cells #[.string ⟨#[]⟩, .bool false, .string ⟨#[]⟩, .int .i64 0] 76)) := (Below.refl _ _).alloc (Nat.le_refl _) _
  ⟨heap_alloc_new w _, hb0, Nat.le_refl _, hr.below hb0 hB, hB⟩
end Go.Proofs.YtmdkneollidkfaaGreatDoor.Fl

/-
  The document's class definitions.
-/
namespace Go.Proofs.YtmdkneollidkfaaGreatDoor.Fl
open Go.RowKit

abbrev subL : List UInt8 := [115, 117, 98, 99, 108, 97, 115, 115, 58]
abbrev fldL : List UInt8 := [102, 105, 101, 108, 100, 115, 58]
abbrev nilL : List UInt8 := [110, 105, 108]
/-- a class definition of tokens: its name, that of the one above, the text of its fields -/
def classL : List Tok → Option (List UInt8 × List UInt8 × List UInt8)
  | [a, b, c, d, e, _] => if a.1 = 1 ∧ isT b 2 subL = true ∧ c.1 = 5 ∧ isT d 2 fldL = true ∧ e.1 = 4 then some (c.2.1, a.2.1, e.2.1) else none
  | _ => none
def supN (sp : List UInt8) : List UInt8 := if sp = nilL then [] else sp
def namesOk (l : List (List UInt8)) : Bool := l.all fun x => arityL (mkB x) == 0
def clsOk (nm ft : List UInt8) : Bool := arityL (mkB nm) == 0 && namesOk (wordsA [] ft)
def ClsPost (xs : List Tok) (at_ : Int) (w : World) (e : Ending) (w' : World) : Prop :=
  Below w.heap.size w w' ∧ ((classL xs = none ∧ e = .returned (.tuple #[.agg #[.string ⟨#[]⟩, .string ⟨#[]⟩, .slice none 0 0, .int .i64 0], .bool false])) ∨
    ∃ nm sp ft A c, classL xs = some (nm, sp, ft) ∧ e = .returned (.tuple #[.agg #[.string (mkB nm), .string (mkB (supN sp)), .slice A (wordsA [] ft).length c, .int .i64 at_], .bool (clsOk nm ft)]) ∧ OwnS w' w.heap.size (.slice A (wordsA [] ft).length c) (wordsA [] ft))
theorem tok_cells {w : World} {B b off : Nat} {xs : List Tok} (h : Rd w B (some ⟨b, off, none⟩) (ct xs)) {k : Nat} (hk : k < xs.length) {kd : Nat} {wd : List UInt8} {nm : Int} {at_ : Nat} (hx : xs[k] = (kd, wd, nm, at_)) :
    w.cell? ⟨b, off + k * 4, none⟩ = some (.int .i64 (kd : Int)) ∧ w.cell? ⟨b, off + k * 4 + 1, none⟩ = some (.string ⟨wd.toArray⟩) ∧ w.cell? ⟨b, off + k * 4 + 2, none⟩ = some (.int .i64 nm) ∧ w.cell? ⟨b, off + k * 4 + 3, none⟩ = some (.int .i64 (at_ : Int)) := by
  obtain ⟨b', off', e, _, c0, c1, c2, c3⟩ := rdK_at h hk hx
  injection e with e
  injection e with e1 e2
  subst e1 e2
  exact ⟨c0, c1, c2, c3⟩
/-- what stands while a class is read -/
structure ClW (w0 w : World) (C B b off : Nat) (xs : List Tok) : Prop where
  res : w.heap[C]? = some (.cells #[.string ⟨#[]⟩, .string ⟨#[]⟩, .slice none 0 0, .int .i64 0] 75 (0, 0))
  bel : Below w0.heap.size w0 w
  ne : w0.heap.size ≤ C
  rd : Rd w B (some ⟨b, off, none⟩) (ct xs)
  le : B ≤ w0.heap.size
  lt : b < B
theorem ClW.below {w0 w w' : World} {C B b off : Nat} {xs : List Tok} (h : ClW w0 w C B b off xs) (hb : Below w.heap.size w w') : ClW w0 w' C B b off xs :=
  ⟨(hb.block C (lt_of_blk h.res)).trans h.res, h.bel.trans (hb.mono h.bel.size), h.ne, h.rd.below hb (Nat.le_trans h.le h.bel.size), h.le, h.lt⟩
theorem ClW.fin {w0 w : World} {C B b off : Nat} {xs : List Tok} (h : ClW w0 w C B b off xs) (x0 x1 x2 x3 : Value) :
    ((((w.setCell ⟨C, 0, none⟩ x0).setCell ⟨C, 1, none⟩ x1).setCell ⟨C, 2, none⟩ x2).setCell ⟨C, 3, none⟩ x3).heap[C]? = some (.cells #[x0, x1, x2, x3] 75 (0, 0)) ∧
    Below w0.heap.size w0 ((((w.setCell ⟨C, 0, none⟩ x0).setCell ⟨C, 1, none⟩ x1).setCell ⟨C, 2, none⟩ x2).setCell ⟨C, 3, none⟩ x3) :=
  ⟨set4 h.res _ _ _ _, (((h.bel.setCell (p := ⟨C, 0, none⟩) h.ne x0).setCell (p := ⟨C, 1, none⟩) h.ne x1).setCell (p := ⟨C, 2, none⟩) h.ne x2).setCell (p := ⟨C, 3, none⟩) h.ne x3⟩
theorem ClW.make {w : World} {B b off : Nat} {xs : List Tok} (hr : Rd w B (some ⟨b, off, none⟩) (ct xs)) (hB : B ≤ w.heap.size) (hb : b < B) : ClW w (w.alloc (.cells #[.string ⟨#[]⟩, .string ⟨#[]⟩, .slice none 0 0, .int .i64 0] 75)) w.heap.size B b off xs :=
  have hb0 : Below w.heap.size w (w.alloc (.cells #[.string ⟨#[]⟩, .string ⟨#[]⟩, .slice none 0 0, .int .i64 0] 75)) := (Below.refl _ _).alloc (Nat.le_refl _) _
  ⟨heap_alloc_new w _, hb0, Nat.le_refl _, hr.below hb0 hB, hB, hb⟩
theorem ClW.hi {w0 w : World} {C B b off : Nat} {xs : List Tok} (h : ClW w0 w C B b off xs) : b < w.heap.size := Nat.lt_of_lt_of_le h.lt (Nat.le_trans h.le h.bel.size)
theorem wordsA_le (l : List UInt8) : ∀ cur, ∀ x ∈ wordsA cur l, x.length ≤ cur.length + l.length := by
  induction l with
  | nil =>
    intro cur x hx
    rw [wordsA] at hx
    split at hx
    · cases hx
    · rw [List.mem_singleton] at hx; subst hx; simp
  | cons c l ih =>
    intro cur x hx
    rw [wordsA] at hx
    split at hx
    · split at hx
      · have := ih [] x hx; simp at this ⊢; omega
      · rcases List.mem_cons.1 hx with rfl | hx
        · simp
        · have := ih [] x hx; simp at this ⊢; omega
    · have := ih (cur ++ [c]) x hx; simp at this ⊢; omega
theorem wordsA_cnt (l : List UInt8) : ∀ cur, (wordsA cur l).length ≤ l.length + 1 := by
  induction l with
  | nil =>
    intro cur
    rw [wordsA]
    split <;> simp
  | cons c l ih =>
    intro cur
    rw [wordsA]
    split
    · split
      · have := ih []; simp; omega
      · have := ih []; simp; omega
    · have := ih (cur ++ [c]); simp; omega
theorem rdS_at {w : World} {B : Nat} {A : Option Addr} {xs : List (List UInt8)} (h : Rd w B A (cs_ xs)) {k : Nat} (hk : k < xs.length) : ∃ b off, A = some ⟨b, off, none⟩ ∧ b < B ∧ w.cell? ⟨b, off + k, none⟩ = some (.string ⟨xs[k].toArray⟩) := by
  obtain ⟨b, off, h1, h2, h3⟩ := Rd.at_ h (k := k) (by rw [cs_len]; exact hk)
  refine ⟨b, off, h1, h2, h3.trans ?_⟩
  simp [cs_, mkB]
theorem namesOk_more (l : List (List UInt8)) {i : Nat} (hi : i < l.length) : namesOk (l.take (i + 1)) = (namesOk (l.take i) && (arityL (mkB l[i]) == 0)) := by
  unfold namesOk
  rw [List.take_succ_eq_append_getElem hi, List.all_append]
  simp
theorem OwnS.wide {w : World} {base base' : Nat} {v : Value} {xs : List (List UInt8)} (h : OwnS w base v xs) (hb : base' ≤ base) : OwnS w base' v xs :=
  ⟨h.1, h.2.elim .inl fun ⟨g, cap, cur, hv, hbg, hg, r⟩ => .inr ⟨g, cap, cur, hv, Nat.le_trans hb hbg, hg, r⟩⟩
theorem OwnS.cell {w : World} {base : Nat} {v : Value} {xs : List (List UInt8)} (h : OwnS w base v xs) {P k : Nat} (hP : v.ownBlock ≠ some P) (x : Value) : OwnS (w.setCell ⟨P, k, none⟩ x) base v xs := ownsRow_setCell_other h (a := ⟨P, k, none⟩) hP x
theorem ClW.put {w0 w3 w5 : World} {C B b off P ba : Nat} {xs : List Tok} {v : Value} {l : List (List UInt8)} (h : ClW w0 w3 C B b off xs) (hb : Below w3.heap.size w3 w5) (hP : w5.heap[P]? = some (.cells #[.string ⟨#[]⟩, .string ⟨#[]⟩, .slice none 0 0, .int .i64 0] 75 (0, 0))) (hl : w3.heap.size ≤ P) (ho : OwnS w5 ba v l) (hne : v.ownBlock ≠ some P) (x0 x1 x2 x3 : Value) :
    Below w3.heap.size w3 ((((w5.setCell ⟨P, 0, none⟩ x0).setCell ⟨P, 1, none⟩ x1).setCell ⟨P, 2, none⟩ x2).setCell ⟨P, 3, none⟩ x3) ∧ (((((w5.setCell ⟨P, 0, none⟩ x0).setCell ⟨P, 1, none⟩ x1).setCell ⟨P, 2, none⟩ x2).setCell ⟨P, 3, none⟩ x3).heap[P]? = some (.cells #[x0, x1, x2, x3] 75 (0, 0)) ∧ w0.heap.size ≤ P ∧ P ≠ C) ∧ OwnS ((((w5.setCell ⟨P, 0, none⟩ x0).setCell ⟨P, 1, none⟩ x1).setCell ⟨P, 2, none⟩ x2).setCell ⟨P, 3, none⟩ x3) ba v l ∧ ClW w0 ((((w5.setCell ⟨P, 0, none⟩ x0).setCell ⟨P, 1, none⟩ x1).setCell ⟨P, 2, none⟩ x2).setCell ⟨P, 3, none⟩ x3) C B b off xs := by
  have hB : Below w3.heap.size w3 ((((w5.setCell ⟨P, 0, none⟩ x0).setCell ⟨P, 1, none⟩ x1).setCell ⟨P, 2, none⟩ x2).setCell ⟨P, 3, none⟩ x3) := (((hb.setCell (p := ⟨P, 0, none⟩) hl x0).setCell (p := ⟨P, 1, none⟩) hl x1).setCell (p := ⟨P, 2, none⟩) hl x2).setCell (p := ⟨P, 3, none⟩) hl x3
  have hC := lt_of_blk h.res
  exact ⟨hB, ⟨set4 hP _ _ _ _, Nat.le_trans h.bel.size hl, by omega⟩, (((ho.cell hne x0).cell hne x1).cell hne x2).cell hne x3, h.below hB⟩
theorem ClW.one {w0 w : World} {C B b off P : Nat} {xs : List Tok} (h : ClW w0 w C B b off xs) (hl : w0.heap.size ≤ P) (hne : P ≠ C) (k : Nat) (x : Value) : ClW w0 (w.setCell ⟨P, k, none⟩ x) C B b off xs :=
  have hb : Below w0.heap.size w (w.setCell ⟨P, k, none⟩ x) := (Below.refl w0.heap.size w).setCell (p := ⟨P, k, none⟩) hl x
  ⟨(heap_setCell_other _ _ _ _ (fun e => hne e.symm)).trans h.res, h.bel.setCell (p := ⟨P, k, none⟩) hl x, h.ne, h.rd.below hb h.le, h.le, h.lt⟩
end Go.Proofs.YtmdkneollidkfaaGreatDoor.Fl
