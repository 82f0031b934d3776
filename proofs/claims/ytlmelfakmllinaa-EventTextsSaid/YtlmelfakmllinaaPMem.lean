/-
  Words for slices: a slice that came in (IsRow), and a slice value that reads as a list of cells (Rd), kept while the call only adds memory of its own.
-/
import Derived.WalkKit
import Derived.WalkSmall
import Derived.Laws.OwnMore
import Derived.Laws.Rows
import Derived.OpenShut
import Derived.Below
import Derived.Deep.QuietTactic
import Derived.BigQuiet
import Derived.Lib.Hide
import Derived.Maps.AppendAt
import Derived.Deep.AppendLies
import Derived.Deep.RegionHeld3
namespace Go.Proofs.Ytlmelfakmllinaa.Fl
open Go.RowKit

/-- a slice of integers that came in: nil, or a row of 'cap' cells that hold the numbers zs -/
def IsRow (k : IntKind) (w : World) (a : Option Addr) (len cap : Nat) (zs : List Int) : Prop :=
  (a = none ∧ len = 0 ∧ cap = 0 ∧ zs = []) ∨
  ∃ x, a = some x ∧ len ≤ cap ∧ cap ≤ maxLen ∧ zs.length = cap ∧ (∀ i, i < zs.length → w.cell? (x.add i) = some (.int k (zs.getD i 0))) ∧ ∀ n ∈ zs, (Lit.int k n).wf = true

/-- the slice value '.slice A vs.length c' reads as the cells vs, which lie below block B -/
def Rd (w : World) (B : Nat) (A : Option Addr) (vs : List Value) : Prop :=
  vs = [] ∨ ∃ b off, A = some ⟨b, off, none⟩ ∧ b < B ∧ ∀ j v, vs[j]? = some v → w.cell? ⟨b, off + j, none⟩ = some v
theorem Rd.nil (w : World) (B : Nat) (A : Option Addr) : Rd w B A [] := .inl rfl
theorem Rd.at_ {w : World} {B : Nat} {A : Option Addr} {vs : List Value} (h : Rd w B A vs) {k : Nat} (hk : k < vs.length) :
    ∃ b off, A = some ⟨b, off, none⟩ ∧ b < B ∧ w.cell? ⟨b, off + k, none⟩ = some vs[k] := by
  rcases h with rfl | ⟨b, off, hA, hb, hc⟩
  · simp at hk
  · exact ⟨b, off, hA, hb, hc k _ (List.getElem?_eq_getElem hk)⟩
theorem Rd.keep {w w' : World} {B : Nat} {A : Option Addr} {vs : List Value} (h : Rd w B A vs) (hk : ∀ b o, b < B → w'.cell? ⟨b, o, none⟩ = w.cell? ⟨b, o, none⟩) : Rd w' B A vs := by
  rcases h with rfl | ⟨b, off, hA, hb, hc⟩
  · exact .inl rfl
  · exact .inr ⟨b, off, hA, hb, fun j v hj => (hk b _ hb).trans (hc j v hj)⟩
theorem Rd.below {w w' : World} {B B' : Nat} {A : Option Addr} {vs : List Value} (h : Rd w B A vs) (hb : Below B' w w') (hB : B ≤ B') : Rd w' B A vs :=
  h.keep fun b o hlt => hb.cell (p := ⟨b, o, none⟩) (by show b < B'; omega)
theorem Rd.more {w : World} {B B' : Nat} {A : Option Addr} {vs : List Value} (h : Rd w B A vs) (hB : B ≤ B') : Rd w B' A vs := by
  rcases h with rfl | ⟨b, off, hA, hb, hc⟩
  · exact .inl rfl
  · exact .inr ⟨b, off, hA, by omega, hc⟩
theorem Rd.take_ {w : World} {B : Nat} {A : Option Addr} {vs : List Value} (h : Rd w B A vs) (k : Nat) : Rd w B A (vs.take k) := by
  rcases h with rfl | ⟨b, off, hA, hb, hc⟩
  · exact .inl (by simp)
  · refine .inr ⟨b, off, hA, hb, fun j v hj => hc j v ?_⟩
    rw [List.getElem?_take] at hj
    split at hj
    · exact hj
    · cases hj
theorem Rd.drop_ {w : World} {B : Nat} {b off : Nat} {vs : List Value} (h : Rd w B (some ⟨b, off, none⟩) vs) (k : Nat) : Rd w B (some ⟨b, off + k, none⟩) (vs.drop k) := by
  rcases h with rfl | ⟨b', off', hA, hb, hc⟩
  · exact .inl (by simp)
  · obtain ⟨rfl, rfl⟩ : b = b' ∧ off = off' := by injection hA with hA; injection hA with h1 h2 _; exact ⟨h1, h2⟩
    refine .inr ⟨b, off + k, rfl, hb, fun j v hj => ?_⟩
    rw [Nat.add_assoc]
    exact hc _ v (by rw [← hj, List.getElem?_drop])

/-- bytes as cells -/
def cb (xs : List UInt8) : List Value := xs.map fun c => .int .u8 (c.toNat : Int)
theorem cb_len (xs : List UInt8) : (cb xs).length = xs.length := by simp [cb]
theorem cb_take (xs : List UInt8) (k : Nat) : (cb xs).take k = cb (xs.take k) := by simp [cb, List.map_take]
theorem cb_drop (xs : List UInt8) (k : Nat) : (cb xs).drop k = cb (xs.drop k) := by simp [cb, List.map_drop]
theorem cb_append (xs ys : List UInt8) : cb (xs ++ ys) = cb xs ++ cb ys := by simp [cb]
theorem cb_at (xs : List UInt8) (k : Nat) (h : k < xs.length) : (cb xs)[k]? = some (.int .u8 (xs[k].toNat : Int)) := by simp [cb, h]
theorem rdb_at {w : World} {B : Nat} {A : Option Addr} {xs : List UInt8} (h : Rd w B A (cb xs)) {k : Nat} (hk : k < xs.length) :
    ∃ b off, A = some ⟨b, off, none⟩ ∧ b < B ∧ w.cell? ⟨b, off + k, none⟩ = some (.int .u8 (xs[k].toNat : Int)) := by
  obtain ⟨b, off, hA, hb, hc⟩ := h.at_ (k := k) (by rw [cb_len]; exact hk)
  refine ⟨b, off, hA, hb, ?_⟩
  rw [hc]; simp [cb]

/-- bytes that came in -/
theorem bytes_of_row {w : World} {a : Option Addr} {len cap : Nat} {zs : List Int} (h : IsRow .u8 w a len cap zs) :
    ∃ xs : List UInt8, xs.length = len ∧ len ≤ cap ∧ cap ≤ maxLen ∧ Rd w w.heap.size a (cb xs) ∧ (a = none → len = 0 ∧ cap = 0) ∧ (0 < len → ∃ b off, a = some ⟨b, off, none⟩) := by
  rcases h with ⟨rfl, rfl, rfl, rfl⟩ | ⟨x, rfl, hl, hm, hz, hcell, hwz⟩
  · exact ⟨[], rfl, Nat.le_refl _, by unfold maxLen; omega, .inl rfl, fun _ => ⟨rfl, rfl⟩, fun h => by omega⟩
  · refine ⟨(zs.take len).map fun n => UInt8.ofNat n.toNat, by simp [List.length_take]; omega, hl, hm, ?_, (fun h => by cases h), fun h0 => ?_⟩
    · rcases Nat.eq_zero_or_pos len with h0 | h0
      · subst h0; exact .inl (by simp [cb])
      · obtain ⟨b, off, spot⟩ := x
        have hc := hcell 0 (by omega)
        have hspot : spot = none := by simpa [Addr.add] using World.cell?_spot hc
        subst hspot
        have hc0 : w.cell? ⟨b, off, none⟩ = some (.int .u8 (zs.getD 0 0)) := by simpa [Addr.add] using hc
        refine .inr ⟨b, off, rfl, ?_, fun j v hj => ?_⟩
        · rcases Nat.lt_or_ge b w.heap.size with h1 | h1
          · exact h1
          · exfalso
            unfold World.cell? at hc0
            simp [Array.getElem?_eq_none h1] at hc0
        · have hjl : j < (cb ((zs.take len).map fun n => UInt8.ofNat n.toNat)).length := by
            rcases Nat.lt_or_ge j (cb ((zs.take len).map fun n => UInt8.ofNat n.toNat)).length with h1 | h1
            · exact h1
            · rw [List.getElem?_eq_none h1] at hj; cases hj
          simp [cb, List.length_take] at hjl
          have hcj := hcell j (by omega)
          have e : (⟨b, off, none⟩ : Addr).add j = ⟨b, off + j, none⟩ := by unfold Addr.add; split <;> simp_all
          rw [e] at hcj
          rw [hcj]
          have hzj : zs[j]? = some zs[j] := List.getElem?_eq_getElem (by omega)
          simp [cb, hjl] at hj
          rw [← hj]
          have hb := bounds_u8 (hwz zs[j] (List.getElem_mem (by omega)))
          simp [List.getD, hzj]
          omega
    · obtain ⟨b, off, spot⟩ := x
      have hc := hcell 0 (by omega)
      have hspot : spot = none := by simpa [Addr.add] using World.cell?_spot hc
      subst hspot
      exact ⟨b, off, rfl⟩
end Go.Proofs.Ytlmelfakmllinaa.Fl

/-
  A region that draws its order, whose operations only read and whose calls read or make memory of their own: walked once, in the order of the text. The class of worlds: what was there is as it was.
-/
namespace Go.Proofs.Ytlmelfakmllinaa.Fl
open Go.RowKit

structure Grow (wr : World) where
  w : World
  below : Below wr.heap.size wr w
instance Grow.there (wr : World) : Nonempty (Grow wr) := ⟨⟨wr, Below.refl _ _⟩⟩
theorem Grow.cell {wr : World} (x : Grow wr) (b o : Nat) (h : b < wr.heap.size) : x.w.cell? ⟨b, o, none⟩ = wr.cell? ⟨b, o, none⟩ := x.below.cell (p := ⟨b, o, none⟩) h
theorem Grow.size {wr : World} (x : Grow wr) : wr.heap.size ≤ x.w.heap.size := x.below.size
theorem wp_region_grow {P : Program} {id : Nat} {Q : Exit → Act → World → Prop} {a : Act} {wr : World} {l : List Oper} (hm : P.follows .mixedOrders = true) (hB : Region.lexB .any l.toArray = true)
    (h : wpQuiet P l.toArray (fun w' => ∃ x : Grow wr, w' = x.w) (fun a' => ∀ w', (∃ x : Grow wr, w' = x.w) → Q .normal a' w') l a) : (Code.region id l.toArray true).wp P Q a wr :=
  wp_region_quiet (C := fun w' => ∃ x : Grow wr, w' = x.w) hm hB ⟨⟨wr.drew, (Below.refl _ _).drew⟩, rfl⟩ (by simpa using h)
/-- a call whose contract says that what was there is as it was -/
theorem Grow.call {P : Program} {f : FuncId} {args : Array Value} {wr : World} (x : Grow wr) {v : Value}
    (h : Calls P f args x.w fun e w' => e = .returned v ∧ Below x.w.heap.size x.w w') : Calls P f args x.w fun e w'' => e = .returned v ∧ ∃ y : Grow wr, w'' = y.w :=
  h.mono fun _ w' ⟨he, hb⟩ => ⟨he, ⟨⟨w', x.below.trans (hb.mono x.size)⟩, rfl⟩⟩
theorem Grow.same {P : Program} {f : FuncId} {args : Array Value} {wr : World} (x : Grow wr) {v : Value}
    (h : Calls P f args x.w fun e w' => e = .returned v ∧ x.w = w') : Calls P f args x.w fun e w'' => e = .returned v ∧ ∃ y : Grow wr, w'' = y.w :=
  h.mono fun _ _ ⟨he, hb⟩ => ⟨he, x, hb.symm⟩
end Go.Proofs.Ytlmelfakmllinaa.Fl

/-
  append onto a row of the call's own, of whatever a slice value reads as (nil too): at a list of operations, and at one step of a region that draws its order.
-/
namespace Go.Proofs.Ytlmelfakmllinaa.Fl
open Go.RowKit

section
variable {P : Program} {w : World} {base size bytes n B m c : Nat} {t e : TypeId} {i : TypeInfo} {z v : Value} {xs news : List Value} {A : Option Addr}
/-- what append does to a row of the call's own -/
structure AppRow (w : World) (base size n m : Nat) (e : TypeId) (v : Value) (xs news : List Value) (v' : Value) (w' : World) : Prop where
  own : w'.ownsRow base e size v' (n + m) (xs ++ news)
  grown : w.grownBy w' v.ownBlock
  at_ : v'.ownBlock = v.ownBlock ∨ v'.ownBlock = some w.heap.size
theorem AppRow.slice {w' : World} {v' : Value} (h : AppRow w base size n m e v xs news v' w') : ∃ A c, v' = .slice A (n + m) c ∧ (A = none → n + m = 0) ∧ (∀ a, A = some a → a.off = 0 ∧ a.spot = none ∧ base ≤ a.block ∧ a.block < w'.heap.size ∧ v'.ownBlock = some a.block) := by
  rcases h.own.2 with ⟨e1, e2⟩ | ⟨g, cap, cur, e1, hb, hg, _⟩
  · rw [e2]; exact ⟨none, 0, e1, (fun _ => rfl), (fun a h => by cases h)⟩
  · refine ⟨_, _, e1, (fun h => by cases h), fun a h => ?_⟩
    injection h with h
    subst h e1
    refine ⟨rfl, rfl, hb, ?_, rfl⟩
    rcases Nat.lt_or_ge g w'.heap.size with h1 | h1
    · exact h1
    · rw [Array.getElem?_eq_none h1] at hg; cases hg
theorem AppRow.below {w0 w' : World} {v' : Value} (h : AppRow w base size n m e v xs news v' w') (h0 : Below w0.heap.size w0 w) (hb : ∀ k, v.ownBlock = some k → w0.heap.size ≤ k) : Below w0.heap.size w0 w' :=
  h0.grown h.grown h0.size hb
theorem append_rd (ty : TypeId) (ht : P.underlying t = some (.slice e)) (hi : P.info? e = some i) (hz : i.zero = some z) (hsize : i.size = size) (hby : i.bytes = bytes) (hzs : z.cells.size = size) (hsz : 0 < size)
    (hown : w.ownsRow base e size v n xs) (hr : Rd w B A news) (hl : news.length = m * size) (hA : A = none → m = 0) (h1 : ∀ u ∈ news, u.oneCell' = true)
    (h63 : n + m ≤ maxLen) (hbytes : (n + m) * bytes ≤ 140737488355328) (hbase : base ≤ w.heap.size) :
    ∃ v' w', (Builtin.append_ #[t, t] ty #[v, .slice A m c]).run P w = .ok v' w' ∧ AppRow w base size n m e v xs news v' w' := by
  cases A with
  | none =>
    have hm : m = 0 := hA rfl
    subst hm
    obtain rfl : news = [] := List.eq_nil_of_length_eq_zero (by omega)
    have hrun : (Builtin.append_ #[t, t] ty #[v, .slice none 0 c]).run P w = .ok v w := by
      rcases hown.2 with ⟨rfl, rfl⟩ | ⟨g, cap, cur, rfl, _, _, hnc, _⟩
      · simp [Builtin.append_, run_underlying ht, sizeOf, typeInfo, hi, Builtin.lenOf, Builtin.firstCells]
      · simp [Builtin.append_, run_underlying ht, sizeOf, typeInfo, hi, Builtin.lenOf, Builtin.firstCells, hnc, storeCells]
    exact ⟨v, w, hrun, by rw [Nat.add_zero, List.append_nil]; exact hown, World.grownBy.refl w _, .inl rfl⟩
  | some ad =>
    have hc : ∀ j u, news[j]? = some u → w.cell? (ad.add j) = some u := fun j u hu => by
      rcases hr with rfl | ⟨b, off, hA2, _, hcell⟩
      · simp at hu
      · injection hA2 with hA2
        subst hA2
        have := hcell j u hu
        have e : (⟨b, off, none⟩ : Addr).add j = ⟨b, off + j, none⟩ := by unfold Addr.add; split <;> simp_all
        rw [e]; exact this
    obtain ⟨v', w', h2, h3, h4, _, h6⟩ := run_append_own_at (P := P) w base t ty e i z size bytes ht hi hz hsize hby hzs hsz v n xs hown ad m c news hl hc h1 h63 hbytes hbase
    exact ⟨v', w', h2, h3, h4, h6⟩
theorem oper_append_rd {o : Oper} {a : Act} {K : Act → World → Prop} {Q : Exit → Act → World → Prop} (s x : Operand) (ho : o.op = .call { callee := .builtin .append, args := #[s, x], argTypes := #[t, t] })
    (ht : P.underlying t = some (.slice e)) (hi : P.info? e = some i) (hz : i.zero = some z) (hsize : i.size = size) (hby : i.bytes = bytes) (hzs : z.cells.size = size) (hsz : 0 < size)
    (hs : a.eval s = v) (hx : a.eval x = .slice A m c) (hown : w.ownsRow base e size v n xs) (hr : Rd w B A news) (hl : news.length = m * size) (hA : A = none → m = 0) (h1 : ∀ u ∈ news, u.oneCell' = true)
    (h63 : n + m ≤ maxLen) (hbytes : (n + m) * bytes ≤ 140737488355328) (hbase : base ≤ w.heap.size)
    (h : ∀ v' w', AppRow w base size n m e v xs news v' w' → K (a.put o.dst v') w') : o.wp P a w K Q := by
  obtain ⟨v', w', h2, h3⟩ := append_rd (c := c) o.type ht hi hz hsize hby hzs hsz hown hr hl hA h1 h63 hbytes hbase
  unfold Oper.wp execOp
  simp only [ho, resolve, invoke, builtin, Sem.run_bind, Sem.run_pure, Result.andThen_ok, List.map_toArray, List.map_cons, List.map_nil, hs, hx, h2]
  exact h v' w' h3
theorem wpList_append_rd {ops : Array Oper} {rest : List Oper} {o : Oper} {a : Act} {Q : Exit → Act → World → Prop} (hg : o.guard = none) (s x : Operand) (ho : o.op = .call { callee := .builtin .append, args := #[s, x], argTypes := #[t, t] })
    (ht : P.underlying t = some (.slice e)) (hi : P.info? e = some i) (hz : i.zero = some z) (hsize : i.size = size) (hby : i.bytes = bytes) (hzs : z.cells.size = size) (hsz : 0 < size)
    (hs : a.eval s = v) (hx : a.eval x = .slice A m c) (hown : w.ownsRow base e size v n xs) (hr : Rd w B A news) (hl : news.length = m * size) (hA : A = none → m = 0) (h1 : ∀ u ∈ news, u.oneCell' = true)
    (h63 : n + m ≤ maxLen) (hbytes : (n + m) * bytes ≤ 140737488355328) (hbase : base ≤ w.heap.size)
    (h : ∀ v' w', AppRow w base size n m e v xs news v' w' → wpList P ops Q rest (a.put o.dst v') w') : wpList P ops Q (o :: rest) a w :=
  wpList_plain hg fun _ hK => oper_append_rd s x ho ht hi hz hsize hby hzs hsz hs hx hown hr hl hA h1 h63 hbytes hbase fun v' w' h2 => hK _ _ (h v' w' h2)
theorem step_append_rd {ops : Array Oper} {o : Oper} {a : Act} {K : Act → World → Prop} {Q : Exit → Act → World → Prop} {E : Prop} (hg : o.guard = none) (s x : Operand) (ho : o.op = .call { callee := .builtin .append, args := #[s, x], argTypes := #[t, t] })
    (ht : P.underlying t = some (.slice e)) (hi : P.info? e = some i) (hz : i.zero = some z) (hsize : i.size = size) (hby : i.bytes = bytes) (hzs : z.cells.size = size) (hsz : 0 < size)
    (hs : a.eval s = v) (hx : a.eval x = .slice A m c) (hown : w.ownsRow base e size v n xs) (hr : Rd w B A news) (hl : news.length = m * size) (hA : A = none → m = 0) (h1 : ∀ u ∈ news, u.oneCell' = true)
    (h63 : n + m ≤ maxLen) (hbytes : (n + m) * bytes ≤ 140737488355328) (hbase : base ≤ w.heap.size)
    (h : ∀ v' w', AppRow w base size n m e v xs news v' w' → K (a.put o.dst v') w') :
    if Region.wanted o (yielded ops a.tmps) = true then Oper.wp P o a w K Q else E := by
  have hw : Region.wanted o (yielded ops a.tmps) = true := by simp [Region.wanted, hg]
  rw [if_pos hw]
  exact oper_append_rd s x ho ht hi hz hsize hby hzs hsz hs hx hown hr hl hA h1 h63 hbytes hbase h
end
/-- an empty row of the call's own, just made -/
theorem own_void (w : World) (e : TypeId) (size base : Nat) (hb : base ≤ w.heap.size) : (w.alloc (.cells #[] e)).ownsRow base e size (.slice (some ⟨w.heap.size, 0, none⟩) 0 0) 0 [] :=
  ⟨by simp, .inr ⟨w.heap.size, 0, #[], rfl, hb, heap_alloc_new w _, Nat.le_refl _, by unfold maxLen; omega, by simp, by simp⟩⟩
theorem own_block0 {w : World} {e : TypeId} {size base g : Nat} (h : w.heap[g]? = some (.cells #[] e (0, 0))) (hb : base ≤ g) : w.ownsRow base e size (.slice (some ⟨g, 0, none⟩) 0 0) 0 [] :=
  ⟨by simp, .inr ⟨g, 0, #[], rfl, hb, h, Nat.le_refl _, by unfold maxLen; omega, by simp, by simp⟩⟩
/-- a block just made reads as its cells -/
theorem rd_block {w : World} {b B : Nat} {cs : Array Value} {T : TypeId} (h : w.heap[b]? = some (.cells cs T (0, 0))) (hB : b < B) : Rd w B (some ⟨b, 0, none⟩) cs.toList :=
  .inr ⟨b, 0, rfl, hB, fun j v hj => by rw [Nat.zero_add, cell_of_row w b j _ _ _ h, ← hj]; simp⟩
end Go.Proofs.Ytlmelfakmllinaa.Fl

/-
  A slice of numbers that came in.
-/
namespace Go.Proofs.Ytlmelfakmllinaa.Fl
open Go.RowKit

/-- a slice of numbers that came in -/
theorem ints_row {k : IntKind} {w : World} {A : Option Addr} {len cap : Nat} {zs : List Int} (h : IsRow k w A len cap zs) :
    ∃ cs : List Int, cs.length = len ∧ len ≤ cap ∧ cap ≤ maxLen ∧ Rd w w.heap.size A (cs.map (Value.int k)) ∧ (A = none → len = 0 ∧ cap = 0) ∧ ∀ x ∈ cs, (Lit.int k x).wf = true := by
  rcases h with ⟨rfl, rfl, rfl, rfl⟩ | ⟨x, rfl, hl, hm, hz, hcell, hwz⟩
  · exact ⟨[], rfl, Nat.le_refl _, by unfold maxLen; omega, .inl rfl, fun _ => ⟨rfl, rfl⟩, fun x hx => by cases hx⟩
  · refine ⟨zs.take len, by simp [List.length_take]; omega, hl, hm, ?_, (fun h => by cases h), fun y hy => hwz _ (List.mem_of_mem_take hy)⟩
    rcases Nat.eq_zero_or_pos len with h0 | h0
    · subst h0; exact .inl (by simp)
    · obtain ⟨b, off, spot⟩ := x
      have hc := hcell 0 (by omega)
      have hspot : spot = none := by simpa [Addr.add] using World.cell?_spot hc
      subst hspot
      have hc0 : w.cell? ⟨b, off, none⟩ = some (.int k (zs.getD 0 0)) := by simpa [Addr.add] using hc
      refine .inr ⟨b, off, rfl, ?_, fun j v hj => ?_⟩
      · rcases Nat.lt_or_ge b w.heap.size with h1 | h1
        · exact h1
        · simp [World.cell?, Array.getElem?_eq_none h1] at hc0
      · have hjl : j < ((zs.take len).map (Value.int k)).length := by
          rcases Nat.lt_or_ge j ((zs.take len).map (Value.int k)).length with h1 | h1
          · exact h1
          · rw [List.getElem?_eq_none h1] at hj; cases hj
        have hjz : j < zs.length := by simp [List.length_take] at hjl; omega
        have hcj := hcell j hjz
        rw [show (⟨b, off, none⟩ : Addr).add j = ⟨b, off + j, none⟩ from by simp [Addr.add]] at hcj
        rw [hcj, ← hj, List.getElem?_eq_getElem hjl]
        simp [List.getD_eq_getElem?_getD, List.getElem?_eq_getElem hjz]
end Go.Proofs.Ytlmelfakmllinaa.Fl
