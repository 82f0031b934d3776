/-
  Words for slices: a slice that came in (IsRow), and a slice value that reads as a list of cells (Rd), kept while the call only adds memory of its own.
-/
import Derived.WalkKit
import Derived.WalkSmall
import Derived.Laws.OwnMore
import Derived.Laws.Rows
import Derived.OpenShut
import Derived.Below
import Derived.Deep.QuietTactic
import Derived.BigQuiet
import Derived.Lib.Hide
import Derived.Maps.AppendAt
import Derived.Deep.AppendLies
import Derived.Deep.RegionHeld3
import Derived.Test.YtfcceojfcmgmlaaGreatDoorChecked
import Derived.Test.YtfcceojfcmgmlaaGreatDoorShelf
import Derived.Shelf.Strings.Builder1
import Derived.Shelf.Strings.Builder2
import Derived.Shelf.Strings.Replace
import Derived.Deep.DeepCutAuto
import Derived.Laws.BitsAllLaws
import Derived.RowKit
import Derived.Lib.ParseIntBTie
import Derived.Lib.ItoaNum
import Derived.Lib.Strings
import Derived.Test.YtfcceojfcmgmlaaGreatDoorProg
import Derived.WalkSpells
import Derived.WalkLawsBesides
import Derived.Lib.SmallJoins
import Derived.Laws.BytesArg
import Derived.LoopTactic
import Derived.Tactics2
import Derived.Defers
import Derived.Recover
import Derived.Laws.Pointers
import Derived.Test.YtfcceojfcmgmlaaGreatDoorCards
import Derived.Test.YtfcceojfcmgmlaaGreatDoorTie
import Derived.ProofKit
import Derived.ShutString
import Derived.ChangeOld
import Derived.LaidMore
import Derived.Deep.DeepHandedRow
import Derived.Lib.LaidTab
import Derived.MakeChecks
import Derived.Stop.LaidErr
import Derived.Lay
import Derived.Shelf.Vars
import Derived.RangeFuncNested
import Derived.RangeFuncBound
import Derived.RangeFuncCalls
import Derived.RangeFuncLeaves
import Derived.Shelf.Abstract
import Derived.Shelf.RegionOpen
import Derived.OwnWalkIn
import Derived.TacticsInMore
import Derived.LoopNIn
import Derived.LoopIn
namespace Go.Proofs.YtfcceojfcmgmlaaGreatDoor.Fl
open Go.RowKit

/-- the slice value '.slice A vs.length c' reads as the cells vs, which lie below block B -/
def Rd (w : World) (B : Nat) (A : Option Addr) (vs : List Value) : Prop :=
  vs = [] ∨ ∃ b off, A = some ⟨b, off, none⟩ ∧ b < B ∧ ∀ j v, vs[j]? = some v → w.cell? ⟨b, off + j, none⟩ = some v
theorem Rd.nil (w : World) (B : Nat) (A : Option Addr) : Rd w B A [] := .inl rfl
theorem Rd.at_ {w : World} {B : Nat} {A : Option Addr} {vs : List Value} (h : Rd w B A vs) {k : Nat} (hk : k < vs.length) :
    ∃ b off, A = some ⟨b, off, none⟩ ∧ b < B ∧ w.cell? ⟨b, off + k, none⟩ = some vs[k] := by
  rcases h with rfl | ⟨b, off, hA, hb, hc⟩
  · simp at hk
  · exact ⟨b, off, hA, hb, hc k _ (List.getElem?_eq_getElem hk)⟩
theorem Rd.keep {w w' : World} {B : Nat} {A : Option Addr} {vs : List Value} (h : Rd w B A vs) (hk : ∀ b o, b < B → w'.cell? ⟨b, o, none⟩ = w.cell? ⟨b, o, none⟩) : Rd w' B A vs := by
  rcases h with rfl | ⟨b, off, hA, hb, hc⟩
  · exact .inl rfl
  · exact .inr ⟨b, off, hA, hb, fun j v hj => (hk b _ hb).trans (hc j v hj)⟩
theorem Rd.below {w w' : World} {B B' : Nat} {A : Option Addr} {vs : List Value} (h : Rd w B A vs) (hb : Below B' w w') (hB : B ≤ B') : Rd w' B A vs :=
  h.keep fun b o hlt => hb.cell (p := ⟨b, o, none⟩) (by show b < B'; omega)
theorem Rd.more {w : World} {B B' : Nat} {A : Option Addr} {vs : List Value} (h : Rd w B A vs) (hB : B ≤ B') : Rd w B' A vs := by
  rcases h with rfl | ⟨b, off, hA, hb, hc⟩
  · exact .inl rfl
  · exact .inr ⟨b, off, hA, by omega, hc⟩
/-- bytes as cells -/
def cb (xs : List UInt8) : List Value := xs.map fun c => .int .u8 (c.toNat : Int)
end Go.Proofs.YtfcceojfcmgmlaaGreatDoor.Fl

/-
  A region that draws its order, whose operations only read and whose calls read or make memory of their own: walked once, in the order of the text. The class of worlds: what was there is as it was.
-/
namespace Go.Proofs.YtfcceojfcmgmlaaGreatDoor.Fl
open Go.RowKit

structure Grow (wr : World) where
  w : World
  below : Below wr.heap.size wr w
instance Grow.there (wr : World) : Nonempty (Grow wr) := ⟨⟨wr, Below.refl _ _⟩⟩
theorem Grow.cell {wr : World} (x : Grow wr) (b o : Nat) (h : b < wr.heap.size) : x.w.cell? ⟨b, o, none⟩ = wr.cell? ⟨b, o, none⟩ := x.below.cell (p := ⟨b, o, none⟩) h
theorem Grow.size {wr : World} (x : Grow wr) : wr.heap.size ≤ x.w.heap.size := x.below.size
theorem wp_region_grow {P : Program} {id : Nat} {Q : Exit → Act → World → Prop} {a : Act} {wr : World} {l : List Oper} (hm : P.follows .mixedOrders = true) (hB : Region.lexB .any l.toArray = true)
    (h : wpQuiet P l.toArray (fun w' => ∃ x : Grow wr, w' = x.w) (fun a' => ∀ w', (∃ x : Grow wr, w' = x.w) → Q .normal a' w') l a) : (Code.region id l.toArray true).wp P Q a wr :=
  wp_region_quiet (C := fun w' => ∃ x : Grow wr, w' = x.w) hm hB ⟨⟨wr.drew, (Below.refl _ _).drew⟩, rfl⟩ (by simpa using h)
/-- a call whose contract says that what was there is as it was -/
theorem Grow.call {P : Program} {f : FuncId} {args : Array Value} {wr : World} (x : Grow wr) {v : Value}
    (h : Calls P f args x.w fun e w' => e = .returned v ∧ Below x.w.heap.size x.w w') : Calls P f args x.w fun e w'' => e = .returned v ∧ ∃ y : Grow wr, w'' = y.w :=
  h.mono fun _ w' ⟨he, hb⟩ => ⟨he, ⟨⟨w', x.below.trans (hb.mono x.size)⟩, rfl⟩⟩
theorem Grow.same {P : Program} {f : FuncId} {args : Array Value} {wr : World} (x : Grow wr) {v : Value}
    (h : Calls P f args x.w fun e w' => e = .returned v ∧ x.w = w') : Calls P f args x.w fun e w'' => e = .returned v ∧ ∃ y : Grow wr, w'' = y.w :=
  h.mono fun _ _ ⟨he, hb⟩ => ⟨he, x, hb.symm⟩
end Go.Proofs.YtfcceojfcmgmlaaGreatDoor.Fl

/-
  append onto a row of the call's own, of whatever a slice value reads as (nil too): at a list of operations, and at one step of a region that draws its order.
-/
namespace Go.Proofs.YtfcceojfcmgmlaaGreatDoor.Fl
open Go.RowKit

section
variable {P : Program} {w : World} {base size bytes n B m c : Nat} {t e : TypeId} {i : TypeInfo} {z v : Value} {xs news : List Value} {A : Option Addr}
/-- what append does to a row of the call's own -/
structure AppRow (w : World) (base size n m : Nat) (e : TypeId) (v : Value) (xs news : List Value) (v' : Value) (w' : World) : Prop where
  own : w'.ownsRow base e size v' (n + m) (xs ++ news)
  grown : w.grownBy w' v.ownBlock
  at_ : v'.ownBlock = v.ownBlock ∨ v'.ownBlock = some w.heap.size
theorem AppRow.slice {w' : World} {v' : Value} (h : AppRow w base size n m e v xs news v' w') : ∃ A c, v' = .slice A (n + m) c ∧ (A = none → n + m = 0) ∧ (∀ a, A = some a → a.off = 0 ∧ a.spot = none ∧ base ≤ a.block ∧ a.block < w'.heap.size ∧ v'.ownBlock = some a.block) := by
  rcases h.own.2 with ⟨e1, e2⟩ | ⟨g, cap, cur, e1, hb, hg, _⟩
  · rw [e2]; exact ⟨none, 0, e1, (fun _ => rfl), (fun a h => by cases h)⟩
  · refine ⟨_, _, e1, (fun h => by cases h), fun a h => ?_⟩
    injection h with h
    subst h e1
    refine ⟨rfl, rfl, hb, ?_, rfl⟩
    rcases Nat.lt_or_ge g w'.heap.size with h1 | h1
    · exact h1
    · rw [Array.getElem?_eq_none h1] at hg; cases hg
theorem AppRow.below {w0 w' : World} {v' : Value} (h : AppRow w base size n m e v xs news v' w') (h0 : Below w0.heap.size w0 w) (hb : ∀ k, v.ownBlock = some k → w0.heap.size ≤ k) : Below w0.heap.size w0 w' :=
  h0.grown h.grown h0.size hb
theorem append_rd (ty : TypeId) (ht : P.underlying t = some (.slice e)) (hi : P.info? e = some i) (hz : i.zero = some z) (hsize : i.size = size) (hby : i.bytes = bytes) (hzs : z.cells.size = size) (hsz : 0 < size)
    (hown : w.ownsRow base e size v n xs) (hr : Rd w B A news) (hl : news.length = m * size) (hA : A = none → m = 0) (h1 : ∀ u ∈ news, u.oneCell' = true)
    (h63 : n + m ≤ maxLen) (hbytes : (n + m) * bytes ≤ 140737488355328) (hbase : base ≤ w.heap.size) :
    ∃ v' w', (Builtin.append_ #[t, t] ty #[v, .slice A m c]).run P w = .ok v' w' ∧ AppRow w base size n m e v xs news v' w' := by
  cases A with
  | none =>
    have hm : m = 0 := hA rfl
    subst hm
    obtain rfl : news = [] := List.eq_nil_of_length_eq_zero (by omega)
    have hrun : (Builtin.append_ #[t, t] ty #[v, .slice none 0 c]).run P w = .ok v w := by
      rcases hown.2 with ⟨rfl, rfl⟩ | ⟨g, cap, cur, rfl, _, _, hnc, _⟩
      · simp [Builtin.append_, run_underlying ht, sizeOf, typeInfo, hi, Builtin.lenOf, Builtin.firstCells]
      · simp [Builtin.append_, run_underlying ht, sizeOf, typeInfo, hi, Builtin.lenOf, Builtin.firstCells, hnc, storeCells]
    exact ⟨v, w, hrun, by rw [Nat.add_zero, List.append_nil]; exact hown, World.grownBy.refl w _, .inl rfl⟩
  | some ad =>
    have hc : ∀ j u, news[j]? = some u → w.cell? (ad.add j) = some u := fun j u hu => by
      rcases hr with rfl | ⟨b, off, hA2, _, hcell⟩
      · simp at hu
      · injection hA2 with hA2
        subst hA2
        have := hcell j u hu
        have e : (⟨b, off, none⟩ : Addr).add j = ⟨b, off + j, none⟩ := by unfold Addr.add; split <;> simp_all
        rw [e]; exact this
    obtain ⟨v', w', h2, h3, h4, _, h6⟩ := run_append_own_at (P := P) w base t ty e i z size bytes ht hi hz hsize hby hzs hsz v n xs hown ad m c news hl hc h1 h63 hbytes hbase
    exact ⟨v', w', h2, h3, h4, h6⟩
theorem oper_append_rd {o : Oper} {a : Act} {K : Act → World → Prop} {Q : Exit → Act → World → Prop} (s x : Operand) (ho : o.op = .call { callee := .builtin .append, args := #[s, x], argTypes := #[t, t] })
    (ht : P.underlying t = some (.slice e)) (hi : P.info? e = some i) (hz : i.zero = some z) (hsize : i.size = size) (hby : i.bytes = bytes) (hzs : z.cells.size = size) (hsz : 0 < size)
    (hs : a.eval s = v) (hx : a.eval x = .slice A m c) (hown : w.ownsRow base e size v n xs) (hr : Rd w B A news) (hl : news.length = m * size) (hA : A = none → m = 0) (h1 : ∀ u ∈ news, u.oneCell' = true)
    (h63 : n + m ≤ maxLen) (hbytes : (n + m) * bytes ≤ 140737488355328) (hbase : base ≤ w.heap.size)
    (h : ∀ v' w', AppRow w base size n m e v xs news v' w' → K (a.put o.dst v') w') : o.wp P a w K Q := by
  obtain ⟨v', w', h2, h3⟩ := append_rd (c := c) o.type ht hi hz hsize hby hzs hsz hown hr hl hA h1 h63 hbytes hbase
  unfold Oper.wp execOp
  simp only [ho, resolve, invoke, builtin, Sem.run_bind, Sem.run_pure, Result.andThen_ok, List.map_toArray, List.map_cons, List.map_nil, hs, hx, h2]
  exact h v' w' h3
theorem wpList_append_rd {ops : Array Oper} {rest : List Oper} {o : Oper} {a : Act} {Q : Exit → Act → World → Prop} (hg : o.guard = none) (s x : Operand) (ho : o.op = .call { callee := .builtin .append, args := #[s, x], argTypes := #[t, t] })
    (ht : P.underlying t = some (.slice e)) (hi : P.info? e = some i) (hz : i.zero = some z) (hsize : i.size = size) (hby : i.bytes = bytes) (hzs : z.cells.size = size) (hsz : 0 < size)
    (hs : a.eval s = v) (hx : a.eval x = .slice A m c) (hown : w.ownsRow base e size v n xs) (hr : Rd w B A news) (hl : news.length = m * size) (hA : A = none → m = 0) (h1 : ∀ u ∈ news, u.oneCell' = true)
    (h63 : n + m ≤ maxLen) (hbytes : (n + m) * bytes ≤ 140737488355328) (hbase : base ≤ w.heap.size)
    (h : ∀ v' w', AppRow w base size n m e v xs news v' w' → wpList P ops Q rest (a.put o.dst v') w') : wpList P ops Q (o :: rest) a w :=
  wpList_plain hg fun _ hK => oper_append_rd s x ho ht hi hz hsize hby hzs hsz hs hx hown hr hl hA h1 h63 hbytes hbase fun v' w' h2 => hK _ _ (h v' w' h2)
theorem step_append_rd {ops : Array Oper} {o : Oper} {a : Act} {K : Act → World → Prop} {Q : Exit → Act → World → Prop} {E : Prop} (hg : o.guard = none) (s x : Operand) (ho : o.op = .call { callee := .builtin .append, args := #[s, x], argTypes := #[t, t] })
    (ht : P.underlying t = some (.slice e)) (hi : P.info? e = some i) (hz : i.zero = some z) (hsize : i.size = size) (hby : i.bytes = bytes) (hzs : z.cells.size = size) (hsz : 0 < size)
    (hs : a.eval s = v) (hx : a.eval x = .slice A m c) (hown : w.ownsRow base e size v n xs) (hr : Rd w B A news) (hl : news.length = m * size) (hA : A = none → m = 0) (h1 : ∀ u ∈ news, u.oneCell' = true)
    (h63 : n + m ≤ maxLen) (hbytes : (n + m) * bytes ≤ 140737488355328) (hbase : base ≤ w.heap.size)
    (h : ∀ v' w', AppRow w base size n m e v xs news v' w' → K (a.put o.dst v') w') :
    if Region.wanted o (yielded ops a.tmps) = true then Oper.wp P o a w K Q else E := by
  have hw : Region.wanted o (yielded ops a.tmps) = true := by simp [Region.wanted, hg]
  rw [if_pos hw]
  exact oper_append_rd s x ho ht hi hz hsize hby hzs hsz hs hx hown hr hl hA h1 h63 hbytes hbase h
end
/-- an empty row of the call's own, just made -/
theorem own_void (w : World) (e : TypeId) (size base : Nat) (hb : base ≤ w.heap.size) : (w.alloc (.cells #[] e)).ownsRow base e size (.slice (some ⟨w.heap.size, 0, none⟩) 0 0) 0 [] :=
  ⟨by simp, .inr ⟨w.heap.size, 0, #[], rfl, hb, heap_alloc_new w _, Nat.le_refl _, by unfold maxLen; omega, by simp, by simp⟩⟩
end Go.Proofs.YtfcceojfcmgmlaaGreatDoor.Fl

/-
  A slice of numbers that came in.
-/
namespace Go.Proofs.YtfcceojfcmgmlaaGreatDoor.Fl
open Go.RowKit

end Go.Proofs.YtfcceojfcmgmlaaGreatDoor.Fl

/-
  The lexer: its reader in memory; a byte ahead, bytes as long as they are such, giving up.
-/
namespace Go.Proofs.YtfcceojfcmgmlaaGreatDoor.Fl
open Go.RowKit

theorem lt_of_blk {w : World} {k : Nat} {o : Obj} (h : w.heap[k]? = some o) : k < w.heap.size := by
  rcases Nat.lt_or_ge k w.heap.size with h1 | h1
  · exact h1
  · rw [Array.getElem?_eq_none h1] at h; cases h
/-- what stands in memory beside one block has not changed -/
structure Ov (R : Nat) (w w' : World) : Prop where
  os : w'.os = w.os
  tape : w'.tape = w.tape
  output : w'.output = w.output
  size : w.heap.size ≤ w'.heap.size
  block : ∀ k, k < w.heap.size → k ≠ R → w'.heap[k]? = w.heap[k]?
theorem Ov.refl (R : Nat) (w : World) : Ov R w w := ⟨rfl, rfl, rfl, Nat.le_refl _, fun _ _ _ => rfl⟩
theorem Ov.trans {R : Nat} {w w1 w2 : World} (h : Ov R w w1) (k : Ov R w1 w2) : Ov R w w2 :=
  ⟨k.os.trans h.os, k.tape.trans h.tape, k.output.trans h.output, Nat.le_trans h.size k.size, fun j hj hn => (k.block j (Nat.lt_of_lt_of_le hj h.size) hn).trans (h.block j hj hn)⟩
theorem Ov.of_below {R : Nat} {w w' : World} (h : Below w.heap.size w w') : Ov R w w' := ⟨h.os, h.tape, h.output, h.size, fun k hk _ => h.block k hk⟩
theorem Ov.set {R : Nat} (w : World) (k : Nat) (v : Value) : Ov R w (w.setCell ⟨R, k, none⟩ v) :=
  ⟨rfl, rfl, rfl, Nat.le_of_eq (by simp [World.setCell]), fun j _ hn => Below.heap_setCell _ _ _ _ hn⟩
theorem Ov.below {R B : Nat} {w w' : World} (h : Ov R w w') (hB : B ≤ w.heap.size) (hR : B ≤ R) : Below B w w' :=
  ⟨h.os, h.tape, h.output, h.size, fun k hk => h.block k (by omega) (by omega)⟩
/-- the reader -/
def RdrAt (w : World) (R : Nat) (s : ByteArray) (p b : Nat) : Prop := w.heap[R]? = some (.cells #[.string s, .int .i64 (p : Int), .int .i64 (b : Int)] 167 (0, 0))
theorem RdrAt.below {w w' : World} {R p b : Nat} {s : ByteArray} (h : RdrAt w R s p b) (hb : Below w.heap.size w w') : RdrAt w' R s p b := (hb.block _ (lt_of_blk h)).trans h
theorem RdrAt.cells {w : World} {R p b : Nat} {s : ByteArray} (h : RdrAt w R s p b) :
    w.cell? ⟨R, 0, none⟩ = some (.string s) ∧ w.cell? ⟨R, 1, none⟩ = some (.int .i64 (p : Int)) ∧ w.cell? ⟨R, 2, none⟩ = some (.int .i64 (b : Int)) ∧ ∀ k, w.frozen? ⟨R, k, none⟩ = false :=
  ⟨cell_of_row _ _ _ _ _ _ h, cell_of_row _ _ _ _ _ _ h, cell_of_row _ _ _ _ _ _ h, fun _k => frozen_of_row _ _ _ _ _ h⟩
abbrev sb (s : ByteArray) : List UInt8 := s.data.toList
theorem sb_len (s : ByteArray) : (sb s).length = s.size := by simp [sb]
theorem sb_extract (s : ByteArray) (a b : Nat) : sb (s.extract a b) = ((sb s).take b).drop a := by
  simp [sb, List.extract_eq_drop_take']
theorem sb_tail (s : ByteArray) (a : Nat) : sb (s.extract a s.size) = (sb s).drop a := by
  rw [sb_extract, List.take_of_length_le (by rw [sb_len]; exact Nat.le_refl _)]
/-- the byte at a place; 0 behind the end -/
def lookB (s : ByteArray) (p : Nat) : Nat := if h : p < s.size then s[p].toNat else 0
def blankN (c : Nat) : Bool := c == 32 || c == 9 || c == 10 || c == 13
def letterN (c : Nat) : Bool := (decide (97 ≤ c) && decide (c ≤ 122)) || (decide (65 ≤ c) && decide (c ≤ 90))
theorem letterN_any (c : Nat) (w : World) (hc : c < 256) :
    Calls Tryz.prog 93 #[.int .u8 (c : Int)] w fun e w' => e = .returned (.bool (letterN c)) ∧ w = w' := by
  obtain ⟨r, hr⟩ : ∃ r, letterN c = r := ⟨_, rfl⟩
  rw [hr]
  have HR := Lib.hid hr
  clear hr
  go_enter Tryz.func93, Tryz.ntmps93
  go_wp2_with fail
  all_goals
    go_ret
    refine ⟨congrArg (fun x => Ending.returned (Value.bool x)) ?_, rfl⟩
    rw [← HR.out]
    unfold letterN
    refine Bool.eq_iff_iff.2 ?_
    first
    | (simp; done)
    | (simp; omega)
def digitN (c : Nat) : Bool := decide (48 ≤ c) && decide (c ≤ 57)
theorem digitN_any (c : Nat) (w : World) (hc : c < 256) :
    Calls Tryz.prog 114 #[.int .u8 (c : Int)] w fun e w' => e = .returned (.bool (digitN c)) ∧ w = w' := by
  obtain ⟨r, hr⟩ : ∃ r, digitN c = r := ⟨_, rfl⟩
  rw [hr]
  have HR := Lib.hid hr
  clear hr
  go_enter Tryz.func114, Tryz.ntmps114
  go_wp2_with fail
  all_goals
    go_ret
    refine ⟨congrArg (fun x => Ending.returned (Value.bool x)) ?_, rfl⟩
    rw [← HR.out]
    unfold digitN
    refine Bool.eq_iff_iff.2 ?_
    first
    | (simp; done)
    | (simp; omega)
def partN (c : Nat) : Bool := letterN c || digitN c
theorem partN_any (c : Nat) (w : World) (hc : c < 256) :
    Calls Tryz.prog 92 #[.int .u8 (c : Int)] w fun e w' => e = .returned (.bool (partN c)) ∧ w = w' := by
  have h1 := letterN_any c w hc
  have h2 := digitN_any c w hc
  have HR := Lib.hid (show partN c = (letterN c || digitN c) from rfl)
  generalize partN c = r at *
  go_enter Tryz.func92, Tryz.ntmps92
  cases hl : letterN c
  · rw [hl] at h1 HR
    go_wp2_with fail
    refine h1.mono ?_
    rintro e w' ⟨rfl, rfl⟩
    go_wp2_with fail
    refine h2.mono ?_
    rintro e w' ⟨rfl, rfl⟩
    go_wp2_with fail
    go_ret
    exact ⟨by rw [HR.out]; rfl, rfl⟩
  · rw [hl] at h1 HR
    go_wp2_with fail
    refine h1.mono ?_
    rintro e w' ⟨rfl, rfl⟩
    go_wp2_with fail
    go_ret
    exact ⟨by rw [HR.out]; rfl, rfl⟩
/-- the place behind bytes that are such -/
def runE (f : Nat → Bool) (s : ByteArray) (p : Nat) : Nat := p + (((sb s).drop p).takeWhile fun c => f c.toNat).length
theorem runE_step {f : Nat → Bool} {s : ByteArray} {p : Nat} (h : p < s.size) (hf : f s[p].toNat = true) : runE f s p = runE f s (p + 1) := by
  unfold runE
  have : (sb s).drop p = s[p] :: (sb s).drop (p + 1) := by
    rw [List.drop_eq_getElem_cons (by rw [sb_len]; exact h)]; rfl
  rw [this, List.takeWhile_cons, if_pos hf, List.length_cons]; omega
theorem runE_stop {f : Nat → Bool} {s : ByteArray} {p : Nat} (h : p < s.size) (hf : f s[p].toNat = false) : runE f s p = p := by
  unfold runE
  have : (sb s).drop p = s[p] :: (sb s).drop (p + 1) := by
    rw [List.drop_eq_getElem_cons (by rw [sb_len]; exact h)]; rfl
  rw [this, List.takeWhile_cons, if_neg (by rw [hf]; simp)]; rfl
theorem runE_end {f : Nat → Bool} {s : ByteArray} : runE f s s.size = s.size := by
  unfold runE
  rw [List.drop_of_length_le (by rw [sb_len]; exact Nat.le_refl _)]; rfl
theorem RdrAt.step {w : World} {R p b : Nat} {s : ByteArray} (h : RdrAt w R s p b) (q : Nat) : RdrAt (w.setCell ⟨R, 1, none⟩ (.int .i64 (q : Int))) R s q b :=
  heap_setCell_same w R 1 _ _ (.int .i64 (q : Int)) h
end Go.Proofs.YtfcceojfcmgmlaaGreatDoor.Fl

/-
  strings.Builder, and ReplaceAll, at this dump.
-/
namespace Go.Proofs.YtfcceojfcmgmlaaGreatDoor.Fl
open Go.RowKit

theorem u8infoL : (Tryz.prog.info? 5).map (fun i => (i.zero, i.size, i.bytes)) = some (some (.int .u8 0), 1, 1) := by kernel_rfl
set_option maxRecDepth 100000 in
theorem copyCheck_used (b : Nat) (w : World) (h0 : w.cell? ⟨b, 0, none⟩ = some (.pointer (some ⟨b, 0, none⟩))) :
    Calls Tryz.prog 82 #[.pointer (some ⟨b, 0, none⟩)] w fun e w' => e = .returned (.tuple #[]) ∧ w = w' := by
  go_enter Tryz.func82, Tryz.ntmps82
  obtain ⟨j, hj⟩ := Option.isSome_iff_exists.1 (show (Tryz.prog.info? 67).isSome = true by kernel_rfl)
  go_wp2_with fail
  rw [Lib.run_neq_ptr_same w _ Tryz.underlying64 hj]
  go_wp2
  go_end0
  exact ⟨rfl, rfl⟩
theorem strCells_sb (s : ByteArray) : Lib.strCells s = Lib.byteCells (sb s) := Lib.strCells_eq s
end Go.Proofs.YtfcceojfcmgmlaaGreatDoor.Fl

/-
  The lexer: what may stand ahead of a token; a Name or a Keyword.
-/
namespace Go.Proofs.YtfcceojfcmgmlaaGreatDoor.Fl
open Go.RowKit

/-- goes over blanks and notes: where what is next begins, or where a note does that doesn't end -/
def skipA (m : Option Nat) (p : Nat) : List UInt8 → Nat ⊕ Nat
  | [] => match m with
    | none => .inl p
    | some b => .inr b
  | c :: l => match m with
    | none => if blankN c.toNat then skipA none (p + 1) l else if c = 34 then skipA (some p) (p + 1) l else .inl p
    | some b => if c = 34 then skipA none (p + 1) l else skipA (some b) (p + 1) l
theorem indexByte_ge (c : UInt8) : ∀ l : List UInt8, -1 ≤ Lib.indexByte l c
  | [] => by simp [Lib.indexByte]
  | b :: l => by
    have := indexByte_ge c l
    rw [Lib.indexByte]
    split
    · omega
    · split <;> omega
theorem indexByte_lt (c : UInt8) : ∀ l : List UInt8, Lib.indexByte l c < (l.length : Int)
  | [] => by simp [Lib.indexByte]
  | b :: l => by
    have := indexByte_lt c l
    rw [Lib.indexByte, List.length_cons]
    split
    · omega
    · split <;> omega
end Go.Proofs.YtfcceojfcmgmlaaGreatDoor.Fl

/-
  Heads of objects in plain mathematics: the second word, what is wrong with a head, how many cells it has.
-/
namespace Go.Proofs.YtfcceojfcmgmlaaGreatDoor.Fl

theorem whole (x : Nat) : x = x % 4294967296 + x / 4294967296 % 16 * 4294967296 + x / 68719476736 % 2 * 68719476736 + x / 137438953472 % 8 * 137438953472 + x / 1099511627776 * 1099511627776 := by
  have h1 : x = x % 4294967296 + x / 4294967296 * 4294967296 := by omega
  have h2 : x / 68719476736 = x / 4294967296 / 16 := by rw [Nat.div_div_eq_div_mul]
  have h3 : x / 137438953472 = x / 4294967296 / 32 := by rw [Nat.div_div_eq_div_mul]
  have h4 : x / 1099511627776 = x / 4294967296 / 256 := by rw [Nat.div_div_eq_div_mul]
  rw [h2, h3, h4]
  generalize x / 4294967296 = y at *
  generalize x % 4294967296 = z at *
  omega
end Go.Proofs.YtfcceojfcmgmlaaGreatDoor.Fl

/-
  Plain mathematics for layer 1 (numbers in a word): no program in it. The word of a number, the number of a word, the bitwise operations on 64 bits, division rounded down, products and shifts that wrap.
-/
namespace Go.Proofs.YtfcceojfcmgmlaaGreatDoor.Fl
open Go.RowKit

def InR (n : Int) : Prop := -4611686018427387904 ≤ n ∧ n ≤ 4611686018427387903
instance (n : Int) : Decidable (InR n) := by unfold InR; exact inferInstance
def wd (n : Int) : Int := (2 * n + 1) % 18446744073709551616
/-! ### bitwise, with a sign -/
/-- the 64 bits of a number with its sign, as a natural number -/
def u (x : Int) : Nat := (x % 18446744073709551616).toNat
theorem wrap_i64 (n : Int) : IntKind.i64.wrap n = wrap64 n := by
  unfold wrap64
  have e64 : (2 : Int) ^ 64 = 18446744073709551616 := by decide
  have e63 : (2 : Int) ^ (64 - 1) = 9223372036854775808 := by decide
  simp only [IntKind.wrap, IntKind.bits, IntKind.signed, Bool.true_and, decide_eq_true_eq, e64, e63]
  split <;> omega
attribute [irreducible] wd
end Go.Proofs.YtfcceojfcmgmlaaGreatDoor.Fl

/-
  Plain mathematics for layer 1: division rounded down, products and shifts that wrap at 64 bits, and what the reference's loops come to.
-/
namespace Go.Proofs.YtfcceojfcmgmlaaGreatDoor.Fl
open Go.RowKit

/-- divided, down to the next whole number; what is left of that -/
def flo (x y : Int) : Int := if x.tmod y ≠ 0 ∧ decide (x < 0) ≠ decide (y < 0) then x.tdiv y - 1 else x.tdiv y
def rest (x y : Int) : Int := x - flo x y * y
/-! ### products -/
/-! ### shifts -/
attribute [irreducible] flo rest
end Go.Proofs.YtfcceojfcmgmlaaGreatDoor.Fl

/-
  Plain mathematics for the checksum: one step, one byte, all bytes; another byte makes another sum. No program in it.
-/
namespace Go.Proofs.YtfcceojfcmgmlaaGreatDoor.Fl
open Go.RowKit

/-! ### another byte -/
/-! ### as the walk writes it -/
end Go.Proofs.YtfcceojfcmgmlaaGreatDoor.Fl

/-
  Counting the bits of a word, in plain mathematics: by fields that are added pairwise.
-/
namespace Go.Proofs.YtfcceojfcmgmlaaGreatDoor.Fl

end Go.Proofs.YtfcceojfcmgmlaaGreatDoor.Fl

/-
  Plain mathematics for texts of numbers: which texts are numerals, what they spell, and what the library's numerals are. No program in it.
-/
namespace Go.Proofs.YtfcceojfcmgmlaaGreatDoor.Fl
open Go.RowKit

def isDig (c : UInt8) : Bool := decide (48 ≤ c.toNat) && decide (c.toNat ≤ 57)
def allDig (l : List UInt8) : Bool := l.all isDig
def dv (acc : Nat) : List UInt8 → Nat
  | [] => acc
  | c :: r => dv (acc * 10 + (c.toNat - 48)) r
/-- behind the sign -/
def body (l : List UInt8) : List UInt8 := if l.head? = some 45 then l.tail else l
def isNeg (l : List UInt8) : Bool := l.head? == some 45
def form (l : List UInt8) : Bool := allDig (body l) && !(body l).isEmpty
def spelt (l : List UInt8) : Int := if isNeg l then -(dv 0 (body l) : Int) else (dv 0 (body l) : Int)
def pe (l : List UInt8) : Int := if form l then (if InR (spelt l) then 0 else 9) else 3

/-! ### what the library reads -/
/-! ### what the reference reads -/
attribute [irreducible] pe
end Go.Proofs.YtfcceojfcmgmlaaGreatDoor.Fl

/-
  Numbers as texts, of any length: small.digits, small.Parse.
-/
namespace Go.Proofs.YtfcceojfcmgmlaaGreatDoor.Fl
open Go.RowKit

theorem sb_at (s : ByteArray) (k : Nat) (h : k < s.size) : (sb s)[k]? = some s[k] := by
  have : k < (sb s).length := by rw [sb_len]; exact h
  rw [List.getElem?_eq_getElem this]; rfl
theorem sb_mk (l : List UInt8) : sb ⟨l.toArray⟩ = l := by simp [sb]
theorem mkL_size (l : List UInt8) : (⟨l.toArray⟩ : ByteArray).size = l.length := by simp [ByteArray.size]

/-- what the walks read of the program's own variables -/
structure EnvL (w : World) : Prop where
  tab : Lib.TabIs Tryz.prog w "internal/strconv.uint64pow10" .u64 Lib.pow10Tab
  err : ∃ tp p, w.var? Tryz.prog "strconv.ErrRange" = some #[.iface tp p]
theorem varL_lt {w : World} {n : String} {g : Nat} {cs : Array Value} (hg : Tryz.prog.globalNamed n = some g) (h : w.var? Tryz.prog n = some cs) : g < w.heap.size := by
  rcases Nat.lt_or_ge g w.heap.size with hlt | hge
  · exact hlt
  · exfalso
    unfold World.var? at h
    rw [hg] at h
    simp [Array.getElem?_eq_none hge] at h
theorem gPowL : Tryz.prog.globalNamed "internal/strconv.uint64pow10" = some 0 := by kernel_rfl
theorem gErrL : Tryz.prog.globalNamed "strconv.ErrRange" = some 7 := by kernel_rfl
theorem tabL_below {w w' : World} (h : Lib.TabIs Tryz.prog w "internal/strconv.uint64pow10" .u64 Lib.pow10Tab) (hb : Below w.heap.size w w') : Lib.TabIs Tryz.prog w' "internal/strconv.uint64pow10" .u64 Lib.pow10Tab :=
  var?_below hb gPowL (varL_lt gPowL h) h
theorem EnvL.below {w w' : World} (h : EnvL w) (hb : Below w.heap.size w w') : EnvL w' :=
  ⟨tabL_below h.tab hb, by obtain ⟨tp, p, hv⟩ := h.err; exact ⟨tp, p, var?_below hb gErrL (varL_lt gErrL hv) hv⟩⟩
end Go.Proofs.YtfcceojfcmgmlaaGreatDoor.Fl

/-
  The lexer: numbers, a byte behind $, Ops, Keywords behind a #.
-/
namespace Go.Proofs.YtfcceojfcmgmlaaGreatDoor.Fl
open Go.RowKit

/-- what stands between two places -/
def midL (s : ByteArray) (a b : Nat) : List UInt8 := ((sb s).take b).drop a
/-- what an Op is made of -/
def opsL : List UInt8 := [43, 45, 42, 47, 92, 126, 60, 62, 61, 38, 44, 64, 37, 63]
def isOpc (c : UInt8) : Bool := decide (0 ≤ Lib.indexByte opsL c)
def isOpL (l : List UInt8) : Bool := if l.all isOpc then l.length == 1 || (l.length == 2 && l[1]? != some 45) else l == [124]
set_option maxHeartbeats 1000000 in
theorem lxOp_is (t : ByteArray) (w : World) (ht : t.size ≤ 16777216) :
    Calls Tryz.prog 69 #[.string t] w fun e w' => e = .returned (.bool (isOpL (sb t))) ∧ w = w' := by
  have hix := fun (c : UInt8) (w : World) => Tryz.strings_IndexByte ⟨#[43, 45, 42, 47, 92, 126, 60, 62, 61, 38, 44, 64, 37, 63]⟩ (c.toNat : Int) w
  go_enter Tryz.func69, Tryz.ntmps69
  go_wp2_with fail
  go_loop [6] (fun v => ∃ k : Nat, k ≤ t.size ∧ v = .int .i64 (k : Int) ∧ Hid (((sb t).take k).all isOpc = true)) (fun v => t.size - (intOf v).toNat)
  case atStart => exact ⟨0, Nat.zero_le _, rfl, Lib.hid rfl⟩
  case round =>
    obtain ⟨k, hk, rfl, HK⟩ := hrel
    by_cases hlt : k < t.size
    · have hT : (sb t).take (k + 1) = (sb t).take k ++ [t[k]] := by
        have hl : k < (sb t).length := by rw [sb_len]; exact hlt
        rw [List.take_succ_eq_append_getElem hl]; rfl
      have HT := Lib.hid hT
      clear hT
      have hi := hix t[k] w
      rw [Int.toNat_natCast, show t[k].toNat.toUInt8 = t[k] by simp] at hi
      change Calls _ _ _ _ (fun e w' => e = .returned (.int .i64 (Lib.indexByte opsL t[k])) ∧ w' = w) at hi
      obtain ⟨ix, hx⟩ : ∃ ix, Lib.indexByte opsL t[k] = ix := ⟨_, rfl⟩
      have HX := Lib.hid hx
      rw [hx] at hi
      clear hx hix
      by_cases hneg : ix < 0
      · go_wp2_with fail
        refine hi.mono ?_
        rintro e w' ⟨rfl, rfl⟩
        have HF := Lib.hid (show isOpL (sb t) = (t.toList == [124]) by
          have hna : (sb t).all isOpc = false := by
            rw [Bool.eq_false_iff]
            intro ha
            rw [List.all_eq_true] at ha
            have h1 := ha t[k] (List.mem_of_getElem? (sb_at t k hlt))
            unfold isOpc at h1
            rw [HX.out] at h1
            have := of_decide_eq_true h1
            omega
          unfold isOpL
          rw [hna, ByteArray.toList_eq]; rfl)
        go_wp2_with fail
        go_ret
        exact ⟨by rw [HF.out]; rfl, rfl⟩
      · go_wp2_with fail
        refine hi.mono ?_
        rintro e w' ⟨rfl, rfl⟩
        go_wp2_with fail
        go_round
        case rel => exact ⟨k + 1, by omega, by go_num, Lib.hid (by rw [HT.out, List.all_append, HK.out]; simp only [List.all_cons, List.all_nil, Bool.and_true, Bool.true_and]; unfold isOpc; rw [HX.out]; exact decide_eq_true (by omega))⟩
        case measure => simp [intOf]; omega
    · have e : k = t.size := by omega
      subst e
      have HA := Lib.hid (show (sb t).all isOpc = true by have := HK.out; rwa [List.take_of_length_le (by rw [sb_len]; exact Nat.le_refl _)] at this)
      have HF := Lib.hid (show isOpL (sb t) = ((sb t).length == 1 || ((sb t).length == 2 && (sb t)[1]? != some 45)) by unfold isOpL; rw [HA.out]; rfl)
      rw [sb_len] at HF
      clear hix
      by_cases h1 : t.size = 1
      · have HE := Lib.hid (show isOpL (sb t) = true by rw [HF.out, h1]; rfl)
        have e1 : (t.size : Int) = 1 := by omega
        go_wp2_with fail
        go_ret
        exact ⟨by rw [HE.out]; rfl, rfl⟩
      · by_cases h2 : t.size = 2
        · have HE := Lib.hid (show isOpL (sb t) = ((t[1].toNat : Int) != 45) by
            have g1 : (t.size == 1) = false := by simp [h1]
            have g2 : (t.size == 2) = true := by simp [h2]
            rw [HF.out, g1, g2, sb_at t 1 (by omega)]
            have : (t[1] = 45) ↔ (t[1].toNat : Int) = 45 := by
              rw [← UInt8.toNat_inj]
              show t[1].toNat = 45 ↔ _
              omega
            by_cases hc : t[1] = 45
            · rw [hc]; rfl
            · have hc2 : ¬ (t[1].toNat : Int) = 45 := fun e => hc (this.2 e)
              have a1 : (some t[1] != some (45 : UInt8)) = true := by simpa using hc
              have a2 : ((t[1].toNat : Int) != 45) = true := by simpa using hc2
              rw [a1, a2]; rfl)
          have e1 : (t.size : Int) = 2 := by omega
          go_wp2_with fail
          go_ret
          exact ⟨by rw [HE.out]; rfl, rfl⟩
        · have HE := Lib.hid (show isOpL (sb t) = false by
            rw [HF.out]; simp [h1, h2])
          have e1 : ((t.size : Int) == 1) = false := by simp; omega
          have e2 : ((t.size : Int) == 2) = false := by simp; omega
          go_wp2_with fail
          go_ret
          exact ⟨by rw [HE.out]; rfl, rfl⟩
/-- how long an Op stands at a place, of at most so many bytes -/
def opF (s : ByteArray) (p : Nat) : Nat → Nat
  | 0 => 0
  | k + 1 => if p + (k + 1) ≤ s.size ∧ isOpL (midL s p (p + (k + 1))) = true then k + 1 else opF s p k
end Go.Proofs.YtfcceojfcmgmlaaGreatDoor.Fl

/-
  The lexer: what stands between '.
-/
namespace Go.Proofs.YtfcceojfcmgmlaaGreatDoor.Fl
open Go.RowKit

/-- what the lexer reads of package variables -/
def MaxAt (w : World) : Prop := ∃ m, w.cell? ⟨1, 0, none⟩ = some (.int .i64 m)
theorem MaxAt.below {w w' : World} (h : MaxAt w) (hb : Below w.heap.size w w') : MaxAt w' := by
  obtain ⟨m, hm⟩ := h
  exact ⟨m, (hb.cell (p := ⟨1, 0, none⟩) (World.block_lt_of_cell? _ _ hm)).trans hm⟩
end Go.Proofs.YtfcceojfcmgmlaaGreatDoor.Fl

/-
  The lexer: what a # is with; marks.
-/
namespace Go.Proofs.YtfcceojfcmgmlaaGreatDoor.Fl
open Go.RowKit

theorem sb_size (t : ByteArray) : t.size = (sb t).length := (sb_len t).symm
end Go.Proofs.YtfcceojfcmgmlaaGreatDoor.Fl

/-
  The lexer: a token.
-/
namespace Go.Proofs.YtfcceojfcmgmlaaGreatDoor.Fl
open Go.RowKit

/-- what stands while a token is made -/
structure TkW (w0 w : World) (R T C : Nat) (s : ByteArray) (p b : Nat) (v0 v1 v2 v3 : Value) : Prop where
  rdr : RdrAt w R s p b
  tok : w.heap[T]? = some (.cells #[v0, v1, v2, v3] 135 (0, 0))
  res : w.heap[C]? = some (.cells #[.int .i64 0, .string ⟨#[]⟩, .int .i64 0, .int .i64 0] 135 (0, 0))
  ov : Ov R w0 w
  ne : T ≠ R ∧ C ≠ R ∧ T ≠ C ∧ w0.heap.size ≤ T ∧ w0.heap.size ≤ C
theorem TkW.step {w0 w w' : World} {R T C p b p' b' : Nat} {s : ByteArray} {v0 v1 v2 v3 : Value} (h : TkW w0 w R T C s p b v0 v1 v2 v3) (hr : RdrAt w' R s p' b') (ho : Ov R w w') : TkW w0 w' R T C s p' b' v0 v1 v2 v3 :=
  ⟨hr, (ho.block T (lt_of_blk h.tok) h.ne.1).trans h.tok, (ho.block C (lt_of_blk h.res) h.ne.2.1).trans h.res, h.ov.trans ho, h.ne⟩
theorem TkW.below {w0 w w' : World} {R T C p b : Nat} {s : ByteArray} {v0 v1 v2 v3 : Value} (h : TkW w0 w R T C s p b v0 v1 v2 v3) (hb : Below w.heap.size w w') : TkW w0 w' R T C s p b v0 v1 v2 v3 :=
  h.step (h.rdr.below hb) (Ov.of_below hb)
theorem Ov.above {R B : Nat} {w w' : World} (h : Ov R w w') (hB : w.heap.size ≤ B) (k : Nat) (v : Value) : Ov R w (w'.setCell ⟨B, k, none⟩ v) :=
  ⟨h.os, h.tape, h.output, by simp [World.setCell]; exact h.size, fun j hj hn => (Below.heap_setCell _ _ _ _ (show j ≠ B by omega)).trans (h.block j hj hn)⟩
theorem RdrAt.other {w : World} {R B p b : Nat} {s : ByteArray} (h : RdrAt w R s p b) (hB : B ≠ R) (k : Nat) (v : Value) : RdrAt (w.setCell ⟨B, k, none⟩ v) R s p b :=
  (Below.heap_setCell _ _ _ _ (fun e => hB e.symm)).trans h
theorem TkW.set {w0 w : World} {R T C p b : Nat} {s : ByteArray} {v0 v1 v2 v3 x0 x1 x2 x3 : Value} (h : TkW w0 w R T C s p b v0 v1 v2 v3) (j : Nat) (x : Value) (hx : (#[v0, v1, v2, v3] : Array Value).setIfInBounds j x = #[x0, x1, x2, x3]) : TkW w0 (w.setCell ⟨T, j, none⟩ x) R T C s p b x0 x1 x2 x3 :=
  ⟨h.rdr.other h.ne.1 j x, by rw [← hx]; exact heap_setCell_same w T j _ _ x h.tok, (Below.heap_setCell w ⟨T, j, none⟩ x C (fun e => h.ne.2.2.1 e.symm)).trans h.res, h.ov.above h.ne.2.2.2.1 j x, h.ne⟩
theorem set4 {w : World} {C : Nat} {a0 a1 a2 a3 : Value} {T : TypeId} (h : w.heap[C]? = some (.cells #[a0, a1, a2, a3] T (0, 0))) (v0 v1 v2 v3 : Value) :
    ((((w.setCell ⟨C, 0, none⟩ v0).setCell ⟨C, 1, none⟩ v1).setCell ⟨C, 2, none⟩ v2).setCell ⟨C, 3, none⟩ v3).heap[C]? = some (.cells #[v0, v1, v2, v3] T (0, 0)) :=
  heap_setCell_same _ C 3 _ _ v3 (heap_setCell_same _ C 2 _ _ v2 (heap_setCell_same _ C 1 _ _ v1 (heap_setCell_same w C 0 _ _ v0 h)))
/-- the token is handed back -/
theorem TkW.fin {w0 w : World} {R T C p b : Nat} {s : ByteArray} {v0 v1 v2 v3 : Value} (h : TkW w0 w R T C s p b v0 v1 v2 v3) :
    RdrAt ((((w.setCell ⟨C, 0, none⟩ v0).setCell ⟨C, 1, none⟩ v1).setCell ⟨C, 2, none⟩ v2).setCell ⟨C, 3, none⟩ v3) R s p b ∧ Ov R w0 ((((w.setCell ⟨C, 0, none⟩ v0).setCell ⟨C, 1, none⟩ v1).setCell ⟨C, 2, none⟩ v2).setCell ⟨C, 3, none⟩ v3) ∧
      ((((w.setCell ⟨C, 0, none⟩ v0).setCell ⟨C, 1, none⟩ v1).setCell ⟨C, 2, none⟩ v2).setCell ⟨C, 3, none⟩ v3).heap[C]? = some (.cells #[v0, v1, v2, v3] 135 (0, 0)) :=
  ⟨(((h.rdr.other h.ne.2.1 _ _).other h.ne.2.1 _ _).other h.ne.2.1 _ _).other h.ne.2.1 _ _, (((h.ov.above h.ne.2.2.2.2 _ _).above h.ne.2.2.2.2 _ _).above h.ne.2.2.2.2 _ _).above h.ne.2.2.2.2 _ _, set4 h.res _ _ _ _⟩
end Go.Proofs.YtfcceojfcmgmlaaGreatDoor.Fl

/-
  The lexer: Next, which gives up by a panic that it catches.
-/
namespace Go.Proofs.YtfcceojfcmgmlaaGreatDoor.Fl
open Go.RowKit

theorem one_cellL {w : World} {g : Nat} {v : Value} {T : TypeId} (h : w.heap[g]? = some (.cells #[v] T (0, 0))) : w.cell? ⟨g, 0, none⟩ = some v ∧ ∀ k, w.frozen? ⟨g, k, none⟩ = false :=
  ⟨cell_of_row _ _ _ _ _ _ h, fun _ => frozen_of_row _ _ _ _ _ h⟩
theorem set1L {w : World} {C : Nat} {a0 : Value} {T : TypeId} (h : w.heap[C]? = some (.cells #[a0] T (0, 0))) (v0 : Value) : (w.setCell ⟨C, 0, none⟩ v0).heap[C]? = some (.cells #[v0] T (0, 0)) :=
  heap_setCell_same w C 0 _ _ v0 h
end Go.Proofs.YtfcceojfcmgmlaaGreatDoor.Fl

/-
  The lexer: Next.
-/
namespace Go.Proofs.YtfcceojfcmgmlaaGreatDoor.Fl
open Go.RowKit

end Go.Proofs.YtfcceojfcmgmlaaGreatDoor.Fl

/-
  What the frames of the lexer's rows share: the table and the error's variable that the rows list, the one variable that they don't; the witness's world.
-/
namespace Go.Proofs.YtfcceojfcmgmlaaGreatDoor.Fr
open Go.ChangeShapes Go.WideShapes Go.ChangeAt Go.RowKit

theorem own : ownKnob Tryz.prog.godebug = none := by kernel_rfl
theorem laidOut : laidOutB Tryz.prog = true := by kernel_rfl
theorem gPow : Tryz.prog.globalNamed "internal/strconv.uint64pow10" = some 0 := by kernel_rfl
theorem gPowType : (Tryz.prog.globals[0]?).map (·.type) = some 140 := by kernel_rfl
theorem cellsPow : Tryz.prog.cellsOf 140 = 20 := by kernel_rfl
theorem cellsU64 : Tryz.prog.cellsOf 97 = 1 := by kernel_rfl
theorem powData : (Rows.laid_internal_strconv_uint64pow10 : DataW Unit) = Lib.tabData .u64 Lib.pow10Tab := by kernel_rfl
theorem pow_of_laid {W : World} {rest : List (String × DataW Unit)} (h : laidMet Tryz.prog (("internal/strconv.uint64pow10", Rows.laid_internal_strconv_uint64pow10) :: rest) W) : Lib.TabIs Tryz.prog W "internal/strconv.uint64pow10" .u64 Lib.pow10Tab := by
  rw [powData] at h
  exact Lib.tabIs_of_head gPow gPowType Tryz.underlying140 Tryz.underlying97 cellsU64 cellsPow h
theorem star : "*" ++ "errors.errorString" = "*errors.errorString" := by decide
theorem gErr : Tryz.prog.globalNamed "strconv.ErrRange" = some 7 := by kernel_rfl
theorem gErrType : (Tryz.prog.globals[7]?).map (·.type) = some 89 := by kernel_rfl
theorem rowErr (u : TypeId) (h : Tryz.prog.typeName? 3 u = some "*errors.errorString") : u = 202 :=
  typeName_ptr_named (nm := "errors.errorString") (by rw [star]; kernel_rfl) (by kernel_rfl) (by decide) u (by rw [star]; exact h)
theorem cellsErr : Tryz.prog.cellsOf 204 = 1 := by kernel_rfl
theorem cellsStr : Tryz.prog.cellsOf 9 = 1 := by kernel_rfl
/-- the seven that the rows list -/
def laidL : List (String × DataW Unit) := Rows.treeSameRow.laid
theorem laid_lex {W : World} (h : laidMetH Tryz.prog laidL W) : Fl.EnvL W := by
  unfold laidL at h
  rw [MakeChecks.laidMetH_plain _ _ _ (by kernel_rfl)] at h
  refine ⟨pow_of_laid h.tail.tail, ?_⟩
  obtain ⟨a0, s0, hv0, _, _, _⟩ := laid_sentinel h.tail.tail.tail.tail gErr gErrType Tryz.underlying89 rowErr Tryz.underlying202 Tryz.underlying204 rfl rfl Tryz.underlying9 cellsErr cellsStr
  exact ⟨_, _, hv0⟩
theorem max_shaped {W : World} (h : W.ShapedOpen Tryz.prog) : Fl.MaxAt W :=
  cell_of_shapedOpen_int (g := 1) (t := 3) (zero := #[.int .i64 0]) h (of_decide_eq_true (by kernel_rfl)) (by kernel_rfl) rfl (by kernel_rfl) (by kernel_rfl) Tryz.underlying3
/-- the witness's world -/
noncomputable def w0 (os : Os) : World := World.laidAll Tryz.prog os laidL
theorem w0_shaped (os : Os) (args : Array Value) : ((w0 os).forCall (fun _ _ => 0) ⟨#[], args, []⟩).Shaped Tryz.prog :=
  World.shaped_of_ZipB (by kernel_rfl) (by kernel_rfl)
theorem w0_laid (os : Os) (args : Array Value) : laidMetH Tryz.prog laidL ((w0 os).forCall (fun _ _ => 0) ⟨#[], args, []⟩).memory := by
  rw [MakeChecks.laidMetH_plain _ _ _ (by kernel_rfl)]
  exact laidMet_laidAll _ (by kernel_rfl) (by kernel_rfl)
theorem looksOn : true = Tryz.pinned.checked.prog.looks [] := by kernel_rfl
end Go.Proofs.YtfcceojfcmgmlaaGreatDoor.Fr

/-
  The lexer: a token goes on.
-/
namespace Go.Proofs.YtfcceojfcmgmlaaGreatDoor.Fl
open Go.RowKit

end Go.Proofs.YtfcceojfcmgmlaaGreatDoor.Fl

/-
  The lexer: tokens in memory; All.
-/
namespace Go.Proofs.YtfcceojfcmgmlaaGreatDoor.Fl
open Go.RowKit

/-- a token: kind, word, number, place -/
abbrev Tok := Nat × List UInt8 × Int × Nat
def tcells (x : Tok) : List Value := [.int .i64 (x.1 : Int), .string ⟨x.2.1.toArray⟩, .int .i64 x.2.2.1, .int .i64 (x.2.2.2 : Int)]
def ct : List Tok → List Value
  | [] => []
  | x :: l => tcells x ++ ct l
def OwnK (w : World) (base : Nat) (v : Value) (l : List Tok) : Prop := w.ownsRow base 135 4 v l.length (ct l)
theorem OwnK.below {w w' : World} {base : Nat} {v : Value} {xs : List Tok} (h : OwnK w base v xs) (hb : Below w.heap.size w w') : OwnK w' base v xs :=
  ⟨h.1, h.2.elim .inl fun ⟨g, cap, cur, hv, hbg, hg, r⟩ => .inr ⟨g, cap, cur, hv, hbg, (hb.block g (lt_of_blk hg)).trans hg, r⟩⟩
end Go.Proofs.YtfcceojfcmgmlaaGreatDoor.Fl

/-
  The lexer: what a text says behind another is what it says alone.
-/
namespace Go.Proofs.YtfcceojfcmgmlaaGreatDoor.Fl
open Go.RowKit

/-- from d on, s is b -/
structure Tail (s b : ByteArray) (d : Nat) : Prop where
  size : s.size = d + b.size
  drop : ∀ j, (sb s).drop (d + j) = (sb b).drop j
theorem Tail.run {s b : ByteArray} {d : Nat} (h : Tail s b d) (f : Nat → Bool) (j : Nat) : runE f s (d + j) = d + runE f b j := by
  unfold runE
  rw [h.drop, Nat.add_assoc]
theorem Tail.mid {s b : ByteArray} {d : Nat} (h : Tail s b d) (i j : Nat) : midL s (d + i) (d + j) = midL b i j := by
  unfold midL
  rw [List.drop_take, List.drop_take, h.drop, show d + j - (d + i) = j - i by omega]
theorem Tail.op {s b : ByteArray} {d : Nat} (h : Tail s b d) (j : Nat) : ∀ k, opF s (d + j) k = opF b j k
  | 0 => rfl
  | k + 1 => by
    unfold opF
    rw [show d + j + (k + 1) = d + (j + (k + 1)) by omega, h.mid, h.size, h.op j k]
    have e : (d + (j + (k + 1)) ≤ d + b.size) = (j + (k + 1) ≤ b.size) := propext ⟨fun x => by omega, fun x => by omega⟩
    simp only [e]
end Go.Proofs.YtfcceojfcmgmlaaGreatDoor.Fl

/-
  The lexer: what a text says with a blank behind it is what it says alone.
-/
namespace Go.Proofs.YtfcceojfcmgmlaaGreatDoor.Fl
open Go.RowKit

/-- s begins with a, and a blank -/
structure Pre (s a : ByteArray) (r : List UInt8) : Prop where
  eq : sb s = sb a ++ 32 :: r
theorem Pre.size {s a : ByteArray} {r : List UInt8} (h : Pre s a r) : s.size = a.size + 1 + r.length := by
  have := congrArg List.length h.eq
  rw [List.length_append, sb_len, sb_len, List.length_cons] at this
  omega
theorem Pre.drop {s a : ByteArray} {r : List UInt8} (h : Pre s a r) {j : Nat} (hj : j ≤ a.size) : (sb s).drop j = (sb a).drop j ++ 32 :: r := by
  rw [h.eq, List.drop_append_of_le_length (by rw [sb_len]; exact hj)]
theorem Pre.run {s a : ByteArray} {r : List UInt8} (h : Pre s a r) (f : Nat → Bool) (hf : f 32 = false) {j : Nat} (hj : j ≤ a.size) : runE f s j = runE f a j := by
  unfold runE
  rw [h.drop hj]
  congr 2
  generalize (sb a).drop j = l
  induction l with
  | nil => rw [List.nil_append, List.takeWhile_cons, if_neg (by rw [show (32 : UInt8).toNat = 32 from rfl, hf]; simp)]; rfl
  | cons c l ih =>
    rw [List.cons_append, List.takeWhile_cons, List.takeWhile_cons, ih]
theorem Pre.mid {s a : ByteArray} {r : List UInt8} (h : Pre s a r) (i : Nat) {j : Nat} (hj : j ≤ a.size) : midL s i j = midL a i j := by
  unfold midL
  rw [h.eq, List.take_append_of_le_length (by rw [sb_len]; exact hj)]
theorem isOpL_blank {l : List UInt8} (h : (32 : UInt8) ∈ l) : isOpL l = false := by
  unfold isOpL
  rw [if_neg]
  · rw [beq_eq_false_iff_ne]
    rintro rfl
    simp at h
  · rw [List.all_eq_true]
    intro hc
    exact absurd (hc _ h) (by decide)
theorem Pre.op {s a : ByteArray} {r : List UInt8} (h : Pre s a r) {j : Nat} (hj : j ≤ a.size) : ∀ k, opF s j k = opF a j k
  | 0 => rfl
  | k + 1 => by
    have hz := h.size
    unfold opF
    rw [h.op hj k]
    rcases Nat.lt_or_ge a.size (j + (k + 1)) with h1 | h1
    · rw [if_neg (show ¬(j + (k + 1) ≤ a.size ∧ _) from fun x => by omega), if_neg]
      rintro ⟨h2, h3⟩
      rw [isOpL_blank] at h3
      · cases h3
      · unfold midL
        rw [h.eq, List.take_append, List.take_of_length_le (by rw [sb_len]; omega), sb_len, show j + (k + 1) - a.size = (j + k - a.size) + 1 by omega, List.take_succ_cons, List.drop_append_of_le_length (by rw [sb_len]; exact hj)]
        simp
    · rw [h.mid j h1]
      have e : (j + (k + 1) ≤ s.size) = (j + (k + 1) ≤ a.size) := propext ⟨fun _ => h1, fun _ => by omega⟩
      simp only [e]
end Go.Proofs.YtfcceojfcmgmlaaGreatDoor.Fl

/-
  The lexer: two texts with a blank between.
-/
namespace Go.Proofs.YtfcceojfcmgmlaaGreatDoor.Fl
open Go.RowKit

theorem skipA_pre (r : List UInt8) : ∀ (l : List UInt8) (m : Option Nat) (p q : Nat), skipA m p l = .inl q → skipA m p (l ++ 32 :: r) = if q = p + l.length then skipA none (p + l.length + 1) r else .inl q
  | [], m, p, q, h => by
    unfold skipA at h
    split at h
    · injection h with h
      rw [if_pos (by simp; omega)]
      show skipA none p (32 :: r) = _
      rw [skipA]
      rfl
    · cases h
  | c :: l, none, p, q, h => by
    show skipA none p (c :: (l ++ 32 :: r)) = _
    rw [skipA] at h ⊢
    try simp only [] at h
    try simp only []
    rw [List.length_cons, show p + (l.length + 1) = p + 1 + l.length by omega]
    split at h
    · next h0 => rw [if_pos h0]; exact skipA_pre r l none (p + 1) q h
    · next h0 =>
      rw [if_neg h0]
      split at h
      · next h1 => rw [if_pos h1]; exact skipA_pre r l (some p) (p + 1) q h
      · next h1 =>
        rw [if_neg h1]
        injection h with h
        rw [if_neg (by omega), h]
  | c :: l, some b, p, q, h => by
    show skipA (some b) p (c :: (l ++ 32 :: r)) = _
    rw [skipA] at h ⊢
    try simp only [] at h
    try simp only []
    rw [List.length_cons, show p + (l.length + 1) = p + 1 + l.length by omega]
    split at h
    · next h0 => rw [if_pos h0]; exact skipA_pre r l none (p + 1) q h
    · next h0 => rw [if_neg h0]; exact skipA_pre r l (some b) (p + 1) q h
theorem Pre.behind {s a : ByteArray} {r : List UInt8} (h : Pre s a r) : (sb s).drop (a.size + 1) = r := by
  rw [h.eq, List.drop_append, List.drop_of_length_le (by rw [sb_len]; omega), sb_len, show a.size + 1 - a.size = 1 by omega]
  rfl
theorem Pre.skip {s a : ByteArray} {r : List UInt8} (h : Pre s a r) {p q : Nat} (hp : p ≤ a.size) (hq : skipA none p ((sb a).drop p) = .inl q) : skipA none p ((sb s).drop p) = if q = a.size then skipA none (a.size + 1) ((sb s).drop (a.size + 1)) else .inl q := by
  rw [h.drop hp, skipA_pre r _ _ _ _ hq, List.length_drop, sb_len, show p + (a.size - p) = a.size by omega, h.behind]
end Go.Proofs.YtfcceojfcmgmlaaGreatDoor.Fl

/-
  The lexer: the fixed text of the laws.
-/
namespace Go.Proofs.YtfcceojfcmgmlaaGreatDoor.Fl
open Go.RowKit

end Go.Proofs.YtfcceojfcmgmlaaGreatDoor.Fl

/-
  The lexer: a name.
-/
namespace Go.Proofs.YtfcceojfcmgmlaaGreatDoor.Fl
open Go.RowKit

def isNameB (s : ByteArray) : Bool := runE partN s 0 == s.size && letterN (lookB s 0)
set_option maxRecDepth 100000 in
set_option maxHeartbeats 2000000 in
theorem isName_any (s : ByteArray) (w : World) (hs : s.size ≤ 16777216) :
    Calls Tryz.prog 68 #[.string s] w fun e w' => e = .returned (.bool (isNameB s)) ∧ w = w' := by
  have hpn := fun (c : UInt8) (w : World) => partN_any c.toNat w c.toNat_lt
  have hln := fun (c : UInt8) (w : World) => letterN_any c.toNat w c.toNat_lt
  have HPN := Lib.hid hpn
  have HLN := Lib.hid hln
  clear hpn hln
  go_enter Tryz.func68, Tryz.ntmps68
  go_wp2_with fail
  go_loop [6] (fun v => ∃ k : Nat, k ≤ s.size ∧ v = .int .i64 (k : Int) ∧ Hid (runE partN s 0 = runE partN s k)) (fun v => s.size - (intOf v).toNat)
  case atStart => exact ⟨0, Nat.zero_le _, rfl, Lib.hid rfl⟩
  case round =>
    obtain ⟨k, hk, rfl, HK⟩ := hrel
    by_cases hlt : k < s.size
    · have hi := HPN.out s[k] w
      obtain ⟨r, hr⟩ : ∃ r, partN s[k].toNat = r := ⟨_, rfl⟩
      have HR := Lib.hid hr
      rw [hr] at hi
      clear hr
      cases r with
      | false =>
        have HF := Lib.hid (show isNameB s = false by
          unfold isNameB
          rw [HK.out, runE_stop hlt HR.out, show (k == s.size) = false from by rw [beq_eq_false_iff_ne]; omega]; rfl)
        go_wp2_with fail
        refine hi.mono ?_
        rintro e w' ⟨rfl, rfl⟩
        go_wp2_with fail
        go_ret
        exact ⟨by rw [HF.out]; rfl, rfl⟩
      | true =>
        have HE := Lib.hid (show runE partN s 0 = runE partN s (k + 1) by rw [HK.out, runE_step hlt HR.out])
        go_wp2_with fail
        refine hi.mono ?_
        rintro e w' ⟨rfl, rfl⟩
        go_wp2_with fail
        go_round
        case rel => exact ⟨k + 1, by omega, by go_num, HE⟩
        case measure => simp [intOf]; omega
    · have e : k = s.size := by omega
      subst e
      have HA := Lib.hid (show isNameB s = letterN (lookB s 0) by
        unfold isNameB
        rw [HK.out, runE_end, beq_self_eq_true, Bool.true_and])
      clear HK
      by_cases h0 : s.size = 0
      · have hse : s = ⟨#[]⟩ := by
          cases s with
          | mk d => simp [ByteArray.size] at h0; rw [h0]
        subst hse
        go_wp2_with fail
        go_ret
        exact ⟨by rw [HA.out]; rfl, rfl⟩
      · have hp : 0 < s.size := by omega
        have hne : ¬s.toList = [] := by
          intro h
          rw [ByteArray.toList_eq] at h
          have h2 := congrArg List.length h
          rw [show s.data.toList.length = s.size from sb_len s] at h2
          have h3 : s.size = 0 := h2
          omega
        have HEm := Lib.hid (show s.toList.isEmpty = false by rw [List.isEmpty_eq_false_iff]; exact hne)
        have hi := HLN.out s[0] w
        have HL0 := Lib.hid (show isNameB s = letterN s[0].toNat by rw [HA.out]; unfold lookB; rw [dif_pos hp])
        obtain ⟨r, hr⟩ : ∃ r, letterN s[0].toNat = r := ⟨_, rfl⟩
        have HR := Lib.hid hr
        rw [hr] at hi
        clear h0 HA hr
        go_wp2_with (go_at_call 93; (with_reducible refine hi.mono ?_); rintro e w' ⟨rfl, rfl⟩)
        go_ret
        refine ⟨?_, rfl⟩
        show Ending.returned (.bool (!s.toList.isEmpty && r)) = _
        rw [HEm.out, HL0.out, HR.out]
        rfl
end Go.Proofs.YtfcceojfcmgmlaaGreatDoor.Fl

/-
  The lexer: the range over strings.SplitSeq("at:put", ":").
-/
namespace Go.Proofs.YtfcceojfcmgmlaaGreatDoor.Fl
open Go.RowKit Go.Shelf
attribute [local go_sem] Oper.semAt_some
/-- the boxes that the range reads -/
structure SplAt (w : World) (b1 b2 b3 : Nat) (s : ByteArray) : Prop where
  sep : w.heap[b1]? = some (.cells #[.string ⟨#[58]⟩] 9 (0, 0))
  txt : w.heap[b2]? = some (.cells #[.string s] 9 (0, 0))
  sav : w.heap[b3]? = some (.cells #[.int .i64 0] 3 (0, 0))
def KpS (X : Nat → Prop) (W W' : World) : Prop := W.heap.size ≤ W'.heap.size ∧ ∀ k cs T fr, W.heap[k]? = some (.cells cs T fr) → ¬ X k → W'.heap[k]? = W.heap[k]?
theorem SplAt.kept {X : Nat → Prop} {w w' : World} {b1 b2 b3 : Nat} {s : ByteArray} (h : SplAt w b1 b2 b3 s) (hk : KpS X w w') (hX : ¬ X b1 ∧ ¬ X b2 ∧ ¬ X b3) : SplAt w' b1 b2 b3 s :=
  ⟨(hk.2 _ _ _ _ h.sep hX.1).trans h.sep, (hk.2 _ _ _ _ h.txt hX.2.1).trans h.txt, (hk.2 _ _ _ _ h.sav hX.2.2).trans h.sav⟩
theorem SplAt.set {w : World} {b1 b2 b3 : Nat} {s : ByteArray} (h : SplAt w b1 b2 b3 s) (hb : b1 ≠ b2 ∧ b3 ≠ b2) (t : ByteArray) : SplAt (w.setCell ⟨b2, 0, none⟩ (.string t)) b1 b2 b3 t :=
  ⟨(Below.heap_setCell _ _ _ _ hb.1).trans h.sep, set1L h.txt (.string t), (Below.heap_setCell _ _ _ _ hb.2).trans h.sav⟩
def boxLen (b : Nat) (w : World) : Nat := match w.cell? ⟨b, 0, none⟩ with
  | some (.string s) => s.size
  | _ => 0
end Go.Proofs.YtfcceojfcmgmlaaGreatDoor.Fl

/-
  The lexer: the statement that ranges over strings.SplitSeq("at:put", ":").
-/
namespace Go.Proofs.YtfcceojfcmgmlaaGreatDoor.Fl
open Go.RowKit Go.Shelf

/-- a loop's record -/
def recL (fn : FuncId) (tmps : Array Value) (ps : Array Tmp) (assign body : Code) (D : Nat) (st : LoopState) (pe : Option Code) : Loop :=
  { state := st, pending := pe, fn := fn, tmps := tmps, params := ps, assign := assign, body := body, defers := D }
theorem KpS.trans {X : Nat → Prop} {A B C : World} (h : KpS X A B) (h' : KpS X B C) : KpS X A C :=
  ⟨Nat.le_trans h.1 h'.1, fun k cs T fr hk hx => (h'.2 k cs T fr ((h.2 k cs T fr hk hx).trans hk) hx).trans (h.2 k cs T fr hk hx)⟩
theorem kps_put {X : Nat → Prop} {W : World} {l : Nat} {o : Obj} (o' : Obj) (h : W.heap[l]? = some o) (ho : o.isCells = false) : KpS X W (W.putObj l o') :=
  ⟨by simp, fun k cs T fr hc _ => World.putObj_heap_other (fun e => by subst e; rw [h] at hc; cases hc; cases ho)⟩
end Go.Proofs.YtfcceojfcmgmlaaGreatDoor.Fl

/-
  The lexer: Arity of the laws' fixed name.
-/
namespace Go.Proofs.YtfcceojfcmgmlaaGreatDoor.Fl
open Go.RowKit Go.Shelf
attribute [local go_sem] Oper.semAt_some
set_option maxRecDepth 100000 in
theorem splitSeq0_any (s sep : ByteArray) (w : World) :
    Calls Tryz.prog 96 #[.string s, .string sep, .int .i64 0] w fun e w' => e = .returned (.func (.func 117) #[] #[.pointer (some ⟨w.heap.size + 1, 0, none⟩), .pointer (some ⟨w.heap.size, 0, none⟩), .pointer (some ⟨w.heap.size + 1 + 1, 0, none⟩)]) ∧
      w' = ((w.alloc (.cells #[.string s] 9)).alloc (.cells #[.string sep] 9)).alloc (.cells #[.int .i64 0] 3) := by
  have hmf : ∀ (fn : Fn) (first cap : Array Value) (w : World), (Instr.makeFunc fn first cap).run Tryz.prog w = .ok (.func fn first cap) w := fun _ _ _ _ => rfl
  go_enter Tryz.func96, Tryz.ntmps96
  go_wp2_with fail
  go_ret
  exact ⟨rfl, rfl⟩
set_option maxRecDepth 100000 in
theorem splitSeq_any (s sep : ByteArray) (w : World) :
    Calls Tryz.prog 71 #[.string s, .string sep] w fun e w' => e = .returned (.func (.func 117) #[] #[.pointer (some ⟨w.heap.size + 1, 0, none⟩), .pointer (some ⟨w.heap.size, 0, none⟩), .pointer (some ⟨w.heap.size + 1 + 1, 0, none⟩)]) ∧
      w' = ((w.alloc (.cells #[.string s] 9)).alloc (.cells #[.string sep] 9)).alloc (.cells #[.int .i64 0] 3) := by
  have h := splitSeq0_any s sep w
  go_enter Tryz.func71, Tryz.ntmps71
  go_wp2_with fail
  refine h.mono ?_
  rintro e w' ⟨rfl, rfl⟩
  go_wp2_with fail
  go_ret
  exact ⟨rfl, rfl⟩
theorem five_boxes (w : World) (o1 o2 o3 o4 o5 : Obj) (W : World) (hW : (((((w.alloc o1).alloc o2).alloc o3).alloc o4).alloc o5) = W) :
    W.heap[w.heap.size]? = some o1 ∧ W.heap[w.heap.size + 1]? = some o2 ∧ W.heap[w.heap.size + 1 + 1]? = some o3 ∧ W.heap[w.heap.size + 1 + 1 + 1]? = some o4 ∧ W.heap[w.heap.size + 1 + 1 + 1 + 1]? = some o5 ∧ Below w.heap.size w W ∧ W.heap.size = w.heap.size + 5 := by
  subst hW
  have s1 : (w.alloc o1).heap.size = w.heap.size + 1 := World.size_alloc w o1
  have s2 : ((w.alloc o1).alloc o2).heap.size = w.heap.size + 1 + 1 := by rw [World.size_alloc, s1]
  have s3 : (((w.alloc o1).alloc o2).alloc o3).heap.size = w.heap.size + 1 + 1 + 1 := by rw [World.size_alloc, s2]
  have s4 : ((((w.alloc o1).alloc o2).alloc o3).alloc o4).heap.size = w.heap.size + 1 + 1 + 1 + 1 := by rw [World.size_alloc, s3]
  have n1 := heap_alloc_new w o1
  have n2 := heap_alloc_new (w.alloc o1) o2
  have n3 := heap_alloc_new ((w.alloc o1).alloc o2) o3
  have n4 := heap_alloc_new (((w.alloc o1).alloc o2).alloc o3) o4
  have n5 := heap_alloc_new ((((w.alloc o1).alloc o2).alloc o3).alloc o4) o5
  rw [s1] at n2
  rw [s2] at n3
  rw [s3] at n4
  rw [s4] at n5
  have b5 := (Below.refl w.heap.size w).alloc (Nat.le_refl _) o1
  have b6 := b5.alloc (by omega) o2
  have b7 := b6.alloc (by omega) o3
  have b8 := b7.alloc (by omega) o4
  have b9 := b8.alloc (by omega) o5
  refine ⟨?_, ?_, ?_, ?_, n5, b9, by rw [World.size_alloc, s4]⟩
  · exact (Below.heap_alloc _ o5 _ (by omega)).trans ((Below.heap_alloc _ o4 _ (by omega)).trans ((Below.heap_alloc _ o3 _ (by omega)).trans ((Below.heap_alloc _ o2 _ (by omega)).trans n1)))
  · exact (Below.heap_alloc _ o5 _ (by omega)).trans ((Below.heap_alloc _ o4 _ (by omega)).trans ((Below.heap_alloc _ o3 _ (by omega)).trans n2))
  · exact (Below.heap_alloc _ o5 _ (by omega)).trans ((Below.heap_alloc _ o4 _ (by omega)).trans n3)
  · exact (Below.heap_alloc _ o5 _ (by omega)).trans n4
end Go.Proofs.YtfcceojfcmgmlaaGreatDoor.Fl
