/-
Arrays by value: box, alloc, load and store of a whole array, store of one element. No program.
Pins in memory: a pin's variable as one row of three cells.
Plain facts on the encodings of layer 3 (wire): numbers in base 128, texts, fixed numbers. No program.
-/
import Derived.Test.YthoolifdmemceaaGreatDoorB00
import Derived.Deep.WholeRow
import Derived.Test.YthoolifdmemceaaGreatDoorRows
import Derived.Test.YthoolifdmemceaaGreatDoorB02
import Derived.Laws.ResultCell
namespace Go.Proofs.YthoolifdmemceaaGreatDoor
section
open Go.RowKit

/-- The row of block g. -/
def Row (w : World) (g : Nat) (t : TypeId) (c : Array Value) : Prop := w.heap[g]? = some (.cells c t (0, 0))
section
variable {w w' : World} {g g' B : Nat} {t : TypeId} {c : Array Value}
theorem Row.lt (h : Row w g t c) : g < w.heap.size := (Array.getElem?_eq_some_iff.1 h).1
theorem Row.below (h : Row w g t c) (hb : Below B w w') (hg : g < B) : Row w' g t c := (hb.block g hg).trans h
theorem Row.grown (h : Row w g t c) (hg : w.grownBy w' (some g')) (hne : g ≠ g') : Row w' g t c := (hg.block g h.lt (fun e => by injection e with e; exact hne e)).trans h
theorem Row.grown0 (h : Row w g t c) (hg : w.grownBy w' none) : Row w' g t c := (hg.block g h.lt (fun e => by cases e)).trans h
theorem Row.cell (h : Row w g t c) {k : Nat} (hk : k < c.size) : w.cell? ⟨g, k, none⟩ = some c[k] := by
  rw [cell_of_row w g k c t (0, 0) h, Array.getElem?_eq_getElem hk]
theorem row_new (w : World) (c : Array Value) (t : TypeId) : Row (w.alloc (.cells c t)) w.heap.size t c := heap_alloc_last w _
theorem below_row {w0 : World} (hb : Below B w0 w) (hg : w.grownBy w' (some g)) (hB : B ≤ w0.heap.size) (hr : B ≤ g) : Below B w0 w' :=
  hb.grown hg (by have := hb.size; omega) (fun k e => by injection e with e; omega)
theorem below_row0 {w0 : World} (hb : Below B w0 w) (hg : w.grownBy w' none) (hB : B ≤ w0.heap.size) : Below B w0 w' :=
  hb.grown hg (by have := hb.size; omega) (fun k e => by cases e)
theorem grown_setRow (w : World) (g : Nat) (c : Array Value) : w.grownBy (w.setRow g c) (some g) :=
  ⟨rfl, rfl, rfl, by rw [setRow_size]; exact Nat.le_refl _, fun i _ hne => setRow_other w g i c (fun e => hne (by rw [e]))⟩
end

variable {P : Program} (w : World) {ops : Array Oper} {rest : List Oper} {o : Oper} {a : Act} {Q : Exit → Act → World → Prop}

theorem wpList_box_arr (hg : o.guard = none) (d : Tmp) (_ : o.dst = some d) (t : TypeId) (x : Operand) (hop : o.op = .box t x) (v : Value) (c : Array Value) (hv : a.eval x = v) (hc : v.cells = c)
    (h : ∀ w' g, w.heap.size ≤ g → g < w'.heap.size → Row w' g t c → w.grownBy w' none → wpList P ops Q rest (a.put o.dst (.pointer (some ⟨g, 0, none⟩))) w') : wpList P ops Q (o :: rest) a w := by
  refine wpList_plain hg fun K hK => ?_
  subst hc
  have := h (w.alloc (.cells v.cells t)) w.heap.size (Nat.le_refl _) (by simp) (row_new w _ _) (World.grownBy_alloc w _ _)
  unfold Oper.wp
  simp [execOp, hop, hv, Instr.box, newVar, newRow, Result.andThen]
  exact hK _ _ this

theorem wpList_alloc_arr (hg : o.guard = none) (d : Tmp) (_ : o.dst = some d) (t : TypeId) (hop : o.op = .alloc t) (z : Array Value) (hz : ∀ w, (zeroValue t).run P w = .ok (.agg z) w)
    (h : ∀ w' g, w.heap.size ≤ g → g < w'.heap.size → Row w' g t z → w.grownBy w' none → wpList P ops Q rest (a.put o.dst (.pointer (some ⟨g, 0, none⟩))) w') : wpList P ops Q (o :: rest) a w := by
  refine wpList_plain hg fun K hK => ?_
  have := h (w.alloc (.cells z t)) w.heap.size (Nat.le_refl _) (by simp) (row_new w _ _) (World.grownBy_alloc w _ _)
  unfold Oper.wp
  simp [execOp, hop, Instr.alloc, hz, newVar, newRow, Result.andThen, Value.cells]
  exact hK _ _ this

theorem wpList_load_arr (hg : o.guard = none) (t : TypeId) (p : Operand) (hop : o.op = .load t p) (g : Nat) (hp : a.eval p = .pointer (some ⟨g, 0, none⟩)) (t' : TypeId) (c : Array Value) (hrow : Row w g t' c)
    (n : Nat) (e : TypeId) (hu : P.underlying t = some (.array n e)) (hi : (P.info? t).map (·.size) = some c.size)
    (h : wpList P ops Q rest (a.put o.dst (.agg c)) w) : wpList P ops Q (o :: rest) a w := by
  refine wpList_plain hg fun K hK => ?_
  have hl := run_loadVar_row (P := P) w g t' t c (0, 0) _ hrow hu rfl hi
  unfold Oper.wp
  simp only [execOp, hop, hp, Instr.loadAt, Instr.sureAddr, Sem.run_bind, Sem.run_pure, Result.andThen, hl]
  exact hK _ _ h

theorem wpList_store_arr (hg : o.guard = none) (hd : o.dst = none) (t : TypeId) (p x : Operand) (hop : o.op = .store t p x) (g : Nat) (hp : a.eval p = .pointer (some ⟨g, 0, none⟩)) (c' : Array Value) (hx : a.eval x = .agg c')
    (t' : TypeId) (c : Array Value) (hrow : Row w g t' c) (hi : (P.info? t).map (·.size) = some c'.size) (ho : c.size = c'.size) (h1 : c'.all (·.oneCell') = true)
    (h : ∀ w', Row w' g t' c' → w.grownBy w' (some g) → wpList P ops Q rest a w') : wpList P ops Q (o :: rest) a w := by
  refine wpList_plain hg fun K hK => ?_
  have hl := run_storeVar_row (P := P) w g t' t c c' hrow hi ho h1
  have : wpList P ops Q rest (a.put o.dst undef) (w.setRow g c') := by
    rw [hd]
    exact h (w.setRow g c') (setRow_heap w g c c' t' _ hrow) (grown_setRow w g c')
  unfold Oper.wp
  simp only [execOp, hop, hp, hx, Instr.storeAt, Instr.sureAddr, Sem.run_bind, Sem.run_pure, Result.andThen, hl]
  exact hK _ _ this

theorem wpList_store_cell (hg : o.guard = none) (hd : o.dst = none) (t : TypeId) (p x : Operand) (hop : o.op = .store t p x) (g k : Nat) (hp : a.eval p = .pointer (some ⟨g, k, none⟩)) (v : Value) (hx : a.eval x = v) (hv : v.oneCell' = true)
    (t' : TypeId) (c : Array Value) (hrow : Row w g t' c) (hk : k < c.size) (hi : (P.info? t).map (·.size) = some 1)
    (h : ∀ w', Row w' g t' (c.setIfInBounds k v) → w.grownBy w' (some g) → wpList P ops Q rest a w') : wpList P ops Q (o :: rest) a w := by
  refine wpList_plain hg fun K hK => ?_
  have hcell := hrow.cell hk
  have hfro : w.frozen? ⟨g, k, none⟩ = false := by
    have := hrow
    unfold Row at this
    simp [World.frozen?, this]
  have hst : (store (⟨g, k, none⟩ : Addr) v).run P w = .ok () (w.setRow g (c.setIfInBounds k v)) := by
    rw [run_store P w _ v _ hv, hcell]
    simp [hfro, setCell_eq_setRow w g k c t' (0, 0) v hrow]
  have hc : v.cells = #[v] := by cases v <;> first | rfl | cases hv
  have hl : (storeVar t ⟨g, k, none⟩ v).run P w = .ok () (w.setRow g (c.setIfInBounds k v)) := by
    cases hq : P.info? t with
    | none => simp [hq] at hi
    | some i =>
      have hs : i.size = 1 := by simp [hq] at hi; omega
      have hadd : (⟨g, k, none⟩ : Addr).add 0 = ⟨g, k, none⟩ := by unfold Addr.add; simp
      simp [storeVar, sizeOf, typeInfo, hq, hc, hs, storeCells, hadd, hst]
  have : wpList P ops Q rest (a.put o.dst undef) (w.setRow g (c.setIfInBounds k v)) := by
    rw [hd]
    exact h (w.setRow g (c.setIfInBounds k v)) (setRow_heap w g c _ t' _ hrow) (grown_setRow w g _)
  unfold Oper.wp
  simp only [execOp, hop, hp, hx, Instr.storeAt, Instr.sureAddr, Sem.run_bind, Sem.run_pure, Result.andThen, hl]
  exact hK _ _ this

/-- 'x >> k' of 32 bits, k a variable. -/
theorem wpList_shr32 (hg : o.guard = none) (t u : TypeId) (x y : Operand) (hop : o.op = .binOp .shr t x y u) (_hu : P.underlying t = some (.int .u32)) (n : Int) (k : Nat) (hk : k ≤ 32) (hx : a.eval x = .int .u32 n) (hy : a.eval y = .int .i64 (k : Int))
    (r : Int) (hr : n / 2 ^ k = r) (h : wpList P ops Q rest (a.put o.dst (.int .u32 r)) w) : wpList P ops Q (o :: rest) a w := by
  refine wpList_plain hg fun K hK => ?_
  subst hr
  have e : Int.fdiv n (2 ^ min ((k : Int)).toNat IntKind.u32.bits) = n / 2 ^ k := by
    have : min ((k : Int).toNat) IntKind.u32.bits = k := by simp [IntKind.bits]; omega
    rw [this, Int.fdiv_eq_ediv_of_nonneg _ (Int.pow_nonneg (by decide))]
  rw [← e] at h
  unfold Oper.wp
  simp [execOp, hop, hx, hy, Result.andThen]
  exact hK _ _ h

/-- 'x << k', k a variable below the size. -/
theorem wpList_shl (hg : o.guard = none) (t u : TypeId) (x y : Operand) (hop : o.op = .binOp .shl t x y u) (q : IntKind) (n : Int) (k : Nat) (hk : k ≤ q.bits) (hx : a.eval x = .int q n) (hy : a.eval y = .int .i64 (k : Int))
    (r : Int) (hr : q.wrap (n * 2 ^ k) = r) (h : wpList P ops Q rest (a.put o.dst (.int q r)) w) : wpList P ops Q (o :: rest) a w := by
  refine wpList_plain hg fun K hK => ?_
  have e : q.wrap (n * 2 ^ min ((k : Int)).toNat q.bits) = r := by
    have : min ((k : Int).toNat) q.bits = k := by simp; omega
    rw [this, hr]
  rw [← e] at h
  unfold Oper.wp
  simp [execOp, hop, hx, hy, Result.andThen]
  exact hK _ _ h

/-- A result that lies in a variable of an array's type. -/
theorem ret_cell_arr {fn : Func} {R : Ending → World → Prop} {a : Act} {w : World} (p : Tmp) (t : TypeId) (hres : fn.results = #[.cell p t]) (g : Nat) (hp : a.tmps.getD p undef = .pointer (some ⟨g, 0, none⟩))
    (t' : TypeId) (c : Array Value) (hrow : Row w g t' c) (n : Nat) (e : TypeId) (hu : P.underlying t = some (.array n e)) (hi : (P.info? t).map (·.size) = some c.size) (hd : a.defers = [])
    (hR : R (.returned (.agg c)) w) : bodyPost P fn R .ret a w := by
  refine bodyPost_ret (v := .agg c) ?_ hd hR
  have hl := run_loadVar_row (P := P) w g t' t c (0, 0) _ hrow hu rfl hi
  have hp' : a.tmps[p]?.getD undef = .pointer (some ⟨g, 0, none⟩) := by simpa using hp
  simp only [results, hres]
  simp [asAddr, hp', hl]

/-- The load of a whole array, and the store of one cell, as steps of a region that draws its order. -/
theorem step_load_arr {K : Act → World → Prop} {E : Prop} (hg : o.guard = none) (t : TypeId) (p : Operand) (hop : o.op = .load t p) (g : Nat) (hp : a.eval p = .pointer (some ⟨g, 0, none⟩)) (t' : TypeId) (c : Array Value) (hrow : Row w g t' c)
    (n : Nat) (e : TypeId) (hu : P.underlying t = some (.array n e)) (hi : (P.info? t).map (·.size) = some c.size)
    (h : K (a.put o.dst (.agg c)) w) : if Region.wanted o (yielded ops a.tmps) = true then Oper.wp P o a w K Q else E := by
  have hw : Region.wanted o (yielded ops a.tmps) = true := by simp [Region.wanted, hg]
  rw [if_pos hw]
  have hl := run_loadVar_row (P := P) w g t' t c (0, 0) _ hrow hu rfl hi
  unfold Oper.wp
  simp only [execOp, hop, hp, Instr.loadAt, Instr.sureAddr, Sem.run_bind, Sem.run_pure, Result.andThen, hl]
  exact h

theorem run_store_row (t : TypeId) (g k : Nat) (v : Value) (hv : v.oneCell' = true) (t' : TypeId) (c : Array Value) (hrow : Row w g t' c) (hk : k < c.size) (hi : (P.info? t).map (·.size) = some 1) :
    (storeVar t ⟨g, k, none⟩ v).run P w = .ok () (w.setRow g (c.setIfInBounds k v)) := by
  have hcell := hrow.cell hk
  have hfro : w.frozen? ⟨g, k, none⟩ = false := by
    have := hrow
    unfold Row at this
    simp [World.frozen?, this]
  have hst : (store (⟨g, k, none⟩ : Addr) v).run P w = .ok () (w.setRow g (c.setIfInBounds k v)) := by
    rw [run_store P w _ v _ hv, hcell]
    simp [hfro, setCell_eq_setRow w g k c t' (0, 0) v hrow]
  have hc : v.cells = #[v] := by cases v <;> first | rfl | cases hv
  cases hq : P.info? t with
  | none => simp [hq] at hi
  | some i =>
    have hs : i.size = 1 := by simp [hq] at hi; omega
    have hadd : (⟨g, k, none⟩ : Addr).add 0 = ⟨g, k, none⟩ := by unfold Addr.add; simp
    simp [storeVar, sizeOf, typeInfo, hq, hc, hs, storeCells, hadd, hst]

theorem step_store_cell {K : Act → World → Prop} {E : Prop} (hg : o.guard = none) (hd : o.dst = none) (t : TypeId) (p x : Operand) (hop : o.op = .store t p x) (g k : Nat) (hp : a.eval p = .pointer (some ⟨g, k, none⟩)) (v : Value) (hx : a.eval x = v) (hv : v.oneCell' = true)
    (t' : TypeId) (c : Array Value) (hrow : Row w g t' c) (hk : k < c.size) (hi : (P.info? t).map (·.size) = some 1)
    (h : ∀ w', Row w' g t' (c.setIfInBounds k v) → w.grownBy w' (some g) → K a w') : if Region.wanted o (yielded ops a.tmps) = true then Oper.wp P o a w K Q else E := by
  have hw : Region.wanted o (yielded ops a.tmps) = true := by simp [Region.wanted, hg]
  rw [if_pos hw]
  have hl := run_store_row (P := P) w t g k v hv t' c hrow hk hi
  have : K (a.put o.dst undef) (w.setRow g (c.setIfInBounds k v)) := by
    rw [hd]
    exact h (w.setRow g (c.setIfInBounds k v)) (setRow_heap w g c _ t' _ hrow) (grown_setRow w g _)
  unfold Oper.wp
  simp only [execOp, hop, hp, hx, Instr.storeAt, Instr.sureAddr, Sem.run_bind, Sem.run_pure, Result.andThen, hl]
  exact this

/-- An element of an array by value. -/
theorem run_index_arr (t e : TypeId) (n : Nat) (k : IntKind) (hu : P.underlying t = some (.array n e)) (he : P.underlying e = some (.int k)) (hs : (P.info? e).map (·.size) = some 1) (c : Array Value) (i : Nat) (hi : i < n) (v : Value) (hc : c[i]? = some v) :
    ∀ w, (Instr.index t (.agg c) (.int .i64 (i : Int))).run P w = .ok v w := by
  intro w
  cases hq : P.info? e with
  | none => simp [hq] at hs
  | some q =>
    have h1 : q.size = 1 := by simp [hq] at hs; omega
    have hr : (0 : Int) ≤ (i : Int) ∧ (i : Int) < (n : Int) := by omega
    simp [Instr.index, run_underlying hu, run_underlying he, asIntOf, hr, part, isAgg, sizeOf, typeInfo, hq, h1, hc, Result.andThen]
    omega
end

section
open Go.RowKit

theorem pn_one (h : ByteArray) (s : Bool) (x : Int) : (#[Value.string h, .bool s, .int .i64 x]).all (·.oneCell') = true := by simp [Value.oneCell']
theorem zeroPn (w : World) : (zeroValue 23).run Tryz.prog w = .ok (.agg #[.string ⟨#[]⟩, .bool false, .int .i64 0]) w := (zero_of_info (P := Tryz.prog) (t := 23) (v := .agg #[.string ⟨#[]⟩, .bool false, .int .i64 0]) (n := 3) (by kernel_rfl)).1 w
theorem pnUnd : (Tryz.prog.underlying 23).map (fun d => match d with | .struct _ | .array _ _ => true | _ => false) = some true := by kernel_rfl
theorem pnSize : (Tryz.prog.info? 23).map (·.size) = some 3 := by kernel_rfl
theorem pnStr1 : (Tryz.prog.info? 9).map (·.size) = some 1 := by kernel_rfl
theorem pnBool1 : (Tryz.prog.info? 4).map (·.size) = some 1 := by kernel_rfl
theorem pnInt1 : (Tryz.prog.info? 3).map (·.size) = some 1 := by kernel_rfl
/-- A pin's variable. -/
def RowPn (w : World) (b : Nat) (h : ByteArray) (s : Bool) (x : Int) : Prop := Row w b 23 #[.string h, .bool s, .int .i64 x]
section
variable {w : World} {b : Nat} {h : ByteArray} {s : Bool} {x : Int}
theorem RowPn.cells (hr : RowPn w b h s x) : w.cell? ⟨b, 0, none⟩ = some (.string h) ∧ w.cell? ⟨b, 1, none⟩ = some (.bool s) ∧ w.cell? ⟨b, 2, none⟩ = some (.int .i64 x) :=
  ⟨Row.cell hr (k := 0) (by simp), Row.cell hr (k := 1) (by simp), Row.cell hr (k := 2) (by simp)⟩
theorem load_pn (hr : RowPn w b h s x) : (loadVar 23 ⟨b, 0, none⟩).run Tryz.prog w = .ok (.agg #[.string h, .bool s, .int .i64 x]) w := by
  have hu := pnUnd
  obtain ⟨d, hd⟩ : ∃ d, Tryz.prog.underlying 23 = some d := by
    cases hx : Tryz.prog.underlying 23 with
    | none => rw [hx] at hu; cases hu
    | some d => exact ⟨d, rfl⟩
  rw [hd] at hu
  cases d <;> first
    | exact run_loadVar_row (P := Tryz.prog) w b _ _ _ (0, 0) _ hr hd rfl pnSize
    | cases hu
end
/-- A load of a pin's variable, guarded or not. -/
theorem wpList_load_pn {ops : Array Oper} {rest : List Oper} {o : Oper} {a : Act} {w : World} {Q : Exit → Act → World → Prop} (hw : Region.wanted o (yielded ops a.tmps) = true) (p : Operand) (ho : o.op = .load 23 p)
    (g : Nat) (hp : a.eval p = .pointer (some ⟨g, 0, none⟩)) (n : ByteArray) (s : Bool) (x : Int) (h0 : RowPn w g n s x)
    (h : wpList Tryz.prog ops Q rest (a.put o.dst (.agg #[.string n, .bool s, .int .i64 x])) w) : wpList Tryz.prog ops Q (o :: rest) a w := by
  have hl := load_pn h0
  unfold wpList
  rw [if_pos hw]
  left
  unfold Oper.wp
  simp only [execOp, ho, hp, Instr.loadAt, Instr.sureAddr, Sem.run_bind, Sem.run_pure, Result.andThen, hl]
  exact h
theorem wpList_store_pn {ops : Array Oper} {rest : List Oper} {o : Oper} {a : Act} {w : World} {Q : Exit → Act → World → Prop} (hgd : o.guard = none) (hd : o.dst = none) (p y : Operand) (ho : o.op = .store 23 p y)
    (g : Nat) (hp : a.eval p = .pointer (some ⟨g, 0, none⟩)) (n' : ByteArray) (s' : Bool) (x' : Int) (hy : a.eval y = .agg #[.string n', .bool s', .int .i64 x']) (n : ByteArray) (s : Bool) (x : Int) (hrow : RowPn w g n s x)
    (h : ∀ w', RowPn w' g n' s' x' → w.grownBy w' (some g) → wpList Tryz.prog ops Q rest a w') : wpList Tryz.prog ops Q (o :: rest) a w :=
  wpList_store_arr w hgd hd _ p y ho g hp #[.string n', .bool s', .int .i64 x'] hy _ _ hrow pnSize rfl (pn_one _ _ _) h
/-- Stores of one field. -/
theorem wpList_store_pn0 {ops : Array Oper} {rest : List Oper} {o : Oper} {a : Act} {w : World} {Q : Exit → Act → World → Prop} (hgd : o.guard = none) (hd : o.dst = none) (p y : Operand) (ho : o.op = .store 9 p y)
    (g : Nat) (hp : a.eval p = .pointer (some ⟨g, 0, none⟩)) (n' : ByteArray) (hy : a.eval y = .string n') (n : ByteArray) (s : Bool) (x : Int) (hrow : RowPn w g n s x)
    (h : ∀ w', RowPn w' g n' s x → w.grownBy w' (some g) → wpList Tryz.prog ops Q rest a w') : wpList Tryz.prog ops Q (o :: rest) a w :=
  wpList_store_cell w hgd hd _ p y ho g 0 hp _ hy rfl _ _ hrow (by simp) pnStr1 h
theorem wpList_store_pn1 {ops : Array Oper} {rest : List Oper} {o : Oper} {a : Act} {w : World} {Q : Exit → Act → World → Prop} (hgd : o.guard = none) (hd : o.dst = none) (p y : Operand) (ho : o.op = .store 4 p y)
    (g : Nat) (hp : a.eval p = .pointer (some ⟨g, 1, none⟩)) (s' : Bool) (hy : a.eval y = .bool s') (n : ByteArray) (s : Bool) (x : Int) (hrow : RowPn w g n s x)
    (h : ∀ w', RowPn w' g n s' x → w.grownBy w' (some g) → wpList Tryz.prog ops Q rest a w') : wpList Tryz.prog ops Q (o :: rest) a w :=
  wpList_store_cell w hgd hd _ p y ho g 1 hp _ hy rfl _ _ hrow (by simp) pnBool1 h
theorem wpList_store_pn2 {ops : Array Oper} {rest : List Oper} {o : Oper} {a : Act} {w : World} {Q : Exit → Act → World → Prop} (hgd : o.guard = none) (hd : o.dst = none) (p y : Operand) (ho : o.op = .store 3 p y)
    (g : Nat) (hp : a.eval p = .pointer (some ⟨g, 2, none⟩)) (x' : Int) (hy : a.eval y = .int .i64 x') (n : ByteArray) (s : Bool) (x : Int) (hrow : RowPn w g n s x)
    (h : ∀ w', RowPn w' g n s x' → w.grownBy w' (some g) → wpList Tryz.prog ops Q rest a w') : wpList Tryz.prog ops Q (o :: rest) a w :=
  wpList_store_cell w hgd hd _ p y ho g 2 hp _ hy rfl _ _ hrow (by simp) pnInt1 h
theorem ret_pn3 {fn : Func} {R : Ending → World → Prop} {a : Act} {w : World} (p u u2 : Tmp) (hres : fn.results = #[.cell p 23, .tmp u, .tmp u2]) (b : Nat) (hp : a.tmps.getD p undef = .pointer (some ⟨b, 0, none⟩))
    (n : ByteArray) (s : Bool) (x : Int) (hrow : RowPn w b n s x) (v v2 : Value) (hv : a.tmps.getD u undef = v) (hv2 : a.tmps.getD u2 undef = v2) (hd : a.defers = []) (hR : R (.returned (.tuple #[.agg #[.string n, .bool s, .int .i64 x], v, v2])) w) : bodyPost Tryz.prog fn R .ret a w := by
  refine bodyPost_ret (v := .tuple #[.agg #[.string n, .bool s, .int .i64 x], v, v2]) ?_ hd hR
  have hp' : a.tmps[p]?.getD undef = .pointer (some ⟨b, 0, none⟩) := by simpa using hp
  have hv' : a.tmps[u]?.getD undef = v := by simpa using hv
  have hv2' : a.tmps[u2]?.getD undef = v2 := by simpa using hv2
  simp [results, hres, hp', hv', hv2', asAddr, Result.andThen, load_pn hrow]
def eqPn (n n' : ByteArray) (s s' : Bool) (x x' : Int) : Bool := decide (n.toList = n'.toList) && ((s == s') && decide (x = x'))
theorem eq_pn (n n' : ByteArray) (s s' : Bool) (x x' : Int) (W : World) :
    (binOp .eql 23 (.agg #[.string n, .bool s, .int .i64 x]) (.agg #[.string n', .bool s', .int .i64 x'])).run Tryz.prog W = .ok (.bool (eqPn n n' s s' x x')) W := by
  unfold eqPn
  by_cases h1 : n.toList = n'.toList
  · by_cases h2 : x = x'
    · cases s <;> cases s' <;> simp [go_sem, h1, h2]
    · cases s <;> cases s' <;> simp [go_sem, h1, h2]
  · cases s <;> cases s' <;> simp [go_sem, h1]
end

section
/-- The encoding of a number, in at most so many bytes. -/
def encF : Nat → Nat → List UInt8
  | 0, _ => []
  | f + 1, v => if v < 128 then [UInt8.ofNat v] else UInt8.ofNat (v % 128 + 128) :: encF f (v / 128)
def enc (v : Nat) : List UInt8 := encF 10 v
theorem encF_last (f : Nat) {v : Nat} (h : v < 128) : encF (f + 1) v = [UInt8.ofNat v] := by simp [encF, h]
theorem encF_more (f : Nat) {v : Nat} (h : 128 ≤ v) : encF (f + 1) v = UInt8.ofNat (v % 128 + 128) :: encF f (v / 128) := by
  simp only [encF]
  rw [if_neg (by omega)]

/-- How many of the first f bytes have the highest bit set, up to the first that has not. -/
def cont : Nat → List UInt8 → Nat
  | 0, _ => 0
  | _ + 1, [] => 0
  | f + 1, c :: l => if c.toNat < 128 then 0 else cont f l + 1
def val : List UInt8 → Nat
  | [] => 0
  | c :: l => c.toNat % 128 + 128 * val l
/-- What a number at the beginning is: value, bytes, error. -/
def dec (l : List UInt8) : Nat × Nat × Nat :=
  if cont 10 l = 10 then (0, 0, 19)
  else if cont 10 l = l.length then (0, 0, 5)
  else if cont 10 l = 9 ∧ 1 < (l.getD 9 0).toNat then (0, 0, 19)
  else if 0 < cont 10 l ∧ (l.getD (cont 10 l) 0).toNat = 0 then (0, 0, 6)
  else (val (l.take (cont 10 l + 1)), cont 10 l + 1, 0)

theorem cont_le (f : Nat) (l : List UInt8) : cont f l ≤ f ∧ cont f l ≤ l.length := by
  induction f generalizing l with
  | zero => simp [cont]
  | succ f ih =>
    match l with
    | [] => simp [cont]
    | c :: l =>
      simp only [cont]
      have := ih l
      split <;> simp <;> omega
theorem cont_of {f n : Nat} {l : List UInt8} (hf : n ≤ f) (hl : n ≤ l.length) (h : ∀ j, j < n → 128 ≤ (l.getD j 0).toNat) (he : n < f → n < l.length → (l.getD n 0).toNat < 128) : cont f l = n := by
  induction f generalizing n l with
  | zero => simp [cont]; omega
  | succ f ih =>
    match l with
    | [] => simp at hl; simp [cont, hl]
    | c :: l =>
      match n with
      | 0 =>
        have := he (by omega) (by simp)
        simp at this
        simp [cont, this]
      | n + 1 =>
        have h0 := h 0 (by omega)
        simp at h0
        simp only [cont]
        rw [if_neg (by omega), ih (n := n) (by omega) (by simpa using hl) (fun j hj => by simpa using h (j + 1) (by omega)) (fun h1 h2 => by simpa using he (by omega) (by simpa using h2))]
theorem cont_bytes {f : Nat} {l : List UInt8} : (∀ j, j < cont f l → 128 ≤ (l.getD j 0).toNat) ∧ (cont f l < f → cont f l < l.length → (l.getD (cont f l) 0).toNat < 128) := by
  induction f generalizing l with
  | zero => simp [cont]
  | succ f ih =>
    match l with
    | [] => simp [cont]
    | c :: l =>
      simp only [cont]
      split
      · rename_i hc
        simp [hc]
      · rename_i hc
        refine ⟨fun j hj => ?_, fun h1 h2 => ?_⟩
        · match j with
          | 0 => simp; omega
          | j + 1 => simpa using ih.1 j (by omega)
        · simpa using ih.2 (by omega) (by simpa using h2)

theorem val_append (l m : List UInt8) : val (l ++ m) = val l + 128 ^ l.length * val m := by
  induction l with
  | nil => simp [val]
  | cons c l ih =>
    simp only [List.cons_append, val, ih, List.length_cons, Nat.pow_succ]
    rw [Nat.mul_add, Nat.mul_comm (128 ^ l.length) 128, Nat.mul_assoc]
    omega
theorem val_lt (l : List UInt8) : val l < 128 ^ l.length := by
  induction l with
  | nil => simp [val]
  | cons c l ih =>
    simp only [val, List.length_cons, Nat.pow_succ]
    have := Nat.mod_lt c.toNat (show 0 < 128 by decide)
    omega
theorem val_one (c : UInt8) : val [c] = c.toNat % 128 := by simp [val]
theorem val_snoc (l : List UInt8) (c : UInt8) : val (l ++ [c]) = val l + 128 ^ l.length * (c.toNat % 128) := by rw [val_append, val_one]

/-- What an encoding looks like. -/
structure Form (f : Nat) (init : List UInt8) (c : UInt8) : Prop where
  big : ∀ b ∈ init, 128 ≤ b.toNat
  last : c.toNat < 128
  pos : init ≠ [] → c.toNat ≠ 0
  few : init.length < f
theorem ofNat_toNat {v : Nat} (h : v < 256) : (UInt8.ofNat v).toNat = v := by rw [UInt8.toNat_ofNat']; omega
theorem enc_form {f v : Nat} (h : v < 128 ^ f) (hf : 0 < f) : ∃ init c, encF f v = init ++ [c] ∧ Form f init c ∧ val (init ++ [c]) = v := by
  induction f generalizing v with
  | zero => omega
  | succ f ih =>
    by_cases hv : v < 128
    · refine ⟨[], UInt8.ofNat v, by rw [encF_last f hv]; rfl, ⟨by simp, by rw [ofNat_toNat (by omega)]; exact hv, by simp, by simp⟩, ?_⟩
      simp [val, ofNat_toNat (show v < 256 by omega)]
      omega
    · have hf0 : 0 < f := by
        rcases Nat.eq_zero_or_pos f with rfl | h0
        · simp at h; omega
        · exact h0
      obtain ⟨init, c, he, hform, hval⟩ := ih (v := v / 128) (by rw [Nat.pow_succ] at h; omega) hf0
      refine ⟨UInt8.ofNat (v % 128 + 128) :: init, c, by rw [encF_more f (by omega), he]; rfl, ⟨?_, hform.last, ?_, by have := hform.few; simp; omega⟩, ?_⟩
      · intro b hb
        rcases List.mem_cons.1 hb with rfl | hb
        · rw [ofNat_toNat (by omega)]; omega
        · exact hform.big b hb
      · intro _ h0
        match init, hform, hval with
        | [], _, hval =>
          rw [List.nil_append, val_one, h0] at hval
          omega
        | b :: init, hform, _ => exact hform.pos (by simp) h0
      · rw [List.cons_append, val, hval, ofNat_toNat (by omega)]
        omega
theorem form_enc {f : Nat} {init : List UInt8} {c : UInt8} (h : Form f init c) : encF f (val (init ++ [c])) = init ++ [c] := by
  induction init generalizing f with
  | nil =>
    match f, h.few with
    | f + 1, _ =>
      have hc := h.last
      rw [List.nil_append, val_one, Nat.mod_eq_of_lt hc, encF_last f hc]
      simp
  | cons b init ih =>
    match f, h.few with
    | f + 1, hf =>
      have hb := h.big b (by simp)
      have hbl := b.toNat_lt
      have hform : Form f init c := ⟨fun x hx => h.big x (by simp [hx]), h.last, fun _ => h.pos (by simp), by simp at hf; omega⟩
      have hi := ih hform
      have hpos : 0 < val (init ++ [c]) := by
        rw [val_snoc, Nat.mod_eq_of_lt h.last]
        have h1 := h.pos (by simp)
        have h2 : 0 < 128 ^ init.length := Nat.pow_pos (by decide)
        have := Nat.mul_pos h2 (Nat.pos_of_ne_zero h1)
        omega
      rw [List.cons_append, val, encF_more f (by omega), show (b.toNat % 128 + 128 * val (init ++ [c])) / 128 = val (init ++ [c]) by omega, hi,
        show (b.toNat % 128 + 128 * val (init ++ [c])) % 128 + 128 = b.toNat by omega]
      simp

theorem getD_append_at (init : List UInt8) (c : UInt8) (rest : List UInt8) : (init ++ c :: rest).getD init.length 0 = c := by
  rw [List.getD_eq_getElem?_getD, List.getElem?_append_right (Nat.le_refl _)]
  simp
theorem dec_form {init : List UInt8} {c : UInt8} (rest : List UInt8) (h : Form 10 init c) (h9 : init.length = 9 → c.toNat ≤ 1) : dec (init ++ c :: rest) = (val (init ++ [c]), init.length + 1, 0) := by
  have hfew := h.few
  have hc : cont 10 (init ++ c :: rest) = init.length := by
    refine cont_of (by omega) (by simp) (fun j hj => ?_) (fun _ _ => ?_)
    · rw [List.getD_eq_getElem?_getD, List.getElem?_append_left hj, List.getElem?_eq_getElem hj, Option.getD_some]
      exact h.big _ (List.getElem_mem _)
    · rw [getD_append_at]
      exact h.last
  unfold dec
  rw [hc, if_neg (by omega), if_neg (by simp), if_neg (by
    rintro ⟨h1, h2⟩
    rw [← h1, getD_append_at] at h2
    have := h9 h1
    omega), if_neg (by
    rintro ⟨h1, h2⟩
    rw [getD_append_at] at h2
    exact h.pos (by intro e; simp [e] at h1) h2)]
  rw [show init ++ c :: rest = (init ++ [c]) ++ rest by simp, List.take_left' (by simp)]
theorem dec_ok {l : List UInt8} (h : (dec l).2.2 = 0) : ∃ init c rest, l = init ++ c :: rest ∧ Form 10 init c ∧ (init.length = 9 → c.toNat ≤ 1) ∧ dec l = (val (init ++ [c]), init.length + 1, 0) := by
  obtain ⟨k1, k2⟩ := cont_le 10 l
  obtain ⟨b1, b2⟩ := cont_bytes (f := 10) (l := l)
  unfold dec at h
  by_cases g1 : cont 10 l = 10
  · rw [if_pos g1] at h; simp at h
  by_cases g2 : cont 10 l = l.length
  · rw [if_neg g1, if_pos g2] at h; simp at h
  by_cases g3 : cont 10 l = 9 ∧ 1 < (l.getD 9 0).toNat
  · rw [if_neg g1, if_neg g2, if_pos g3] at h; simp at h
  by_cases g4 : 0 < cont 10 l ∧ (l.getD (cont 10 l) 0).toNat = 0
  · rw [if_neg g1, if_neg g2, if_neg g3, if_pos g4] at h; simp at h
  have hlt : cont 10 l < l.length := by omega
  have hlen : (l.take (cont 10 l)).length = cont 10 l := by rw [List.length_take]; omega
  have hsplit : l = l.take (cont 10 l) ++ l[cont 10 l] :: l.drop (cont 10 l + 1) := by
    rw [← List.drop_eq_getElem_cons hlt, List.take_append_drop]
  have hget : l.getD (cont 10 l) 0 = l[cont 10 l] := by rw [List.getD_eq_getElem?_getD, List.getElem?_eq_getElem hlt]; rfl
  have hform : Form 10 (l.take (cont 10 l)) l[cont 10 l] := by
    refine ⟨fun b hb => ?_, ?_, fun hne => ?_, by rw [hlen]; omega⟩
    · obtain ⟨j, hj, rfl⟩ := List.getElem_of_mem hb
      rw [hlen] at hj
      have := b1 j hj
      rw [List.getD_eq_getElem?_getD, List.getElem?_eq_getElem (by omega), Option.getD_some] at this
      rw [List.getElem_take]
      exact this
    · have := b2 (by omega) hlt
      rwa [hget] at this
    · intro h0
      refine g4 ⟨?_, by rw [hget]; exact h0⟩
      rcases Nat.eq_zero_or_pos (cont 10 l) with e | e
      · rw [e] at hne; simp at hne
      · exact e
  have h9 : (l.take (cont 10 l)).length = 9 → (l[cont 10 l]).toNat ≤ 1 := by
    rw [hlen]
    intro e
    have : ¬ 1 < (l.getD 9 0).toNat := fun h => g3 ⟨e, h⟩
    rw [← hget, e]
    omega
  refine ⟨_, _, _, hsplit, hform, h9, ?_⟩
  have := dec_form (l.drop (cont 10 l + 1)) hform h9
  rwa [← hsplit] at this

theorem getD_at (l : List UInt8) (k : Nat) (h : k < l.length) : l.getD k 0 = l[k] := by rw [List.getD_eq_getElem?_getD, List.getElem?_eq_getElem h, Option.getD_some]
theorem dec_ten {l : List UInt8} (h : cont 10 l = 10) : dec l = (0, 0, 19) := by unfold dec; rw [if_pos h]
theorem dec_end {l : List UInt8} (h : cont 10 l = l.length) (h1 : l.length < 10) : dec l = (0, 0, 5) := by unfold dec; rw [if_neg (by omega), if_pos h]
theorem dec_big {l : List UInt8} {n : Nat} (h : cont 10 l = n) (h1 : n < l.length) (h9 : n = 9) (h2 : 1 < l[n].toNat) : dec l = (0, 0, 19) := by
  subst h9
  unfold dec; rw [if_neg (by omega), if_neg (by omega), if_pos ⟨h, by rw [getD_at l 9 h1]; exact h2⟩]
theorem dec_zero {l : List UInt8} {n : Nat} (h : cont 10 l = n) (h1 : n < l.length) (h0 : 0 < n) (h10 : n < 10) (h2 : l[n].toNat = 0) : dec l = (0, 0, 6) := by
  unfold dec
  rw [h, if_neg (by omega), if_neg (by omega), if_neg (by
    rintro ⟨e, h3⟩
    subst e
    rw [getD_at l _ h1] at h3
    omega), if_pos ⟨h0, by rw [getD_at l n h1]; exact h2⟩]
theorem dec_val {l : List UInt8} {n : Nat} (h : cont 10 l = n) (h1 : n < l.length) (h10 : n < 10) (h9 : n = 9 → l[n].toNat ≤ 1) (h2 : 0 < n → l[n].toNat ≠ 0) : dec l = (val (l.take (n + 1)), n + 1, 0) := by
  unfold dec
  rw [h, if_neg (by omega), if_neg (by omega), if_neg (by
    rintro ⟨e, h3⟩
    have h4 := h9 e
    subst e
    rw [getD_at l _ h1] at h3
    omega), if_neg (by
    rintro ⟨e, h3⟩
    rw [getD_at l _ h1] at h3
    exact h2 e h3)]
theorem val_take_succ (l : List UInt8) (k : Nat) (h : k < l.length) : val (l.take (k + 1)) = val (l.take k) + 128 ^ k * (l[k].toNat % 128) := by
  rw [List.take_succ_eq_append_getElem h, val_snoc, List.length_take, Nat.min_eq_left (by omega)]
theorem val_drop_step (l : List UInt8) (i : Nat) (h : i < l.length) : val (l.drop i) = l[i].toNat % 128 + 128 * val (l.drop (i + 1)) := by
  rw [List.drop_eq_getElem_cons h, val]
theorem val_drop_le (l : List UInt8) (i : Nat) : val (l.drop i) ≤ val l := by
  have h := val_append (l.take i) (l.drop i)
  rw [List.take_append_drop] at h
  have : 1 * val (l.drop i) ≤ 128 ^ (l.take i).length * val (l.drop i) := Nat.mul_le_mul_right _ (Nat.pow_pos (by decide))
  omega

/-- Decoding reads back an encoding, whatever follows. -/
theorem dec_enc {v : Nat} (h : v < 18446744073709551616) (rest : List UInt8) : dec (enc v ++ rest) = (v, (enc v).length, 0) := by
  obtain ⟨init, c, he, hform, hval⟩ := enc_form (f := 10) (v := v) (Nat.lt_of_lt_of_le h (by decide)) (by decide)
  unfold enc
  rw [he, List.append_assoc, List.singleton_append, dec_form rest hform ?_, hval]
  · simp
  · intro h9
    rw [val_snoc, h9, Nat.mod_eq_of_lt hform.last] at hval
    have : (128 : Nat) ^ 9 = 9223372036854775808 := by decide
    rw [this] at hval
    omega
/-- Whatever is decoded has the bytes of its encoding. -/
theorem dec_canon {l : List UInt8} (h : (dec l).2.2 = 0) : 1 ≤ (dec l).2.1 ∧ (dec l).2.1 ≤ l.length ∧ (dec l).2.1 ≤ 10 ∧ enc (dec l).1 = l.take (dec l).2.1 ∧ (dec l).1 < 18446744073709551616 := by
  obtain ⟨init, c, rest, rfl, hform, h9, he⟩ := dec_ok h
  rw [he]
  have hfew := hform.few
  refine ⟨by simp, by simp, by simp; omega, ?_, ?_⟩
  · show encF 10 (val (init ++ [c])) = _
    rw [form_enc hform, show init ++ c :: rest = (init ++ [c]) ++ rest by simp]
    exact (List.take_left' (by simp)).symm
  · show val (init ++ [c]) < _
    rw [val_snoc, Nat.mod_eq_of_lt hform.last]
    have hv := val_lt init
    have hl := hform.last
    by_cases e : init.length = 9
    · have := h9 e
      rw [e] at hv ⊢
      have e9 : (128 : Nat) ^ 9 = 9223372036854775808 := by decide
      rw [e9] at hv ⊢
      omega
    · have hp : (128 : Nat) ^ init.length ≤ 128 ^ 8 := Nat.pow_le_pow_right (by decide) (by omega)
      have e8 : (128 : Nat) ^ 8 = 72057594037927936 := by decide
      rw [e8] at hp
      generalize 128 ^ init.length = m at *
      have : m * c.toNat ≤ 72057594037927936 * 127 := Nat.mul_le_mul hp (by omega)
      omega
theorem dec_bad {l : List UInt8} (h : (dec l).2.2 ≠ 0) : (dec l).1 = 0 ∧ (dec l).2.1 = 0 ∧ ((dec l).2.2 = 5 ∨ (dec l).2.2 = 6 ∨ (dec l).2.2 = 19) := by
  unfold dec at h ⊢
  split
  · simp
  · rename_i g1
    rw [if_neg g1] at h
    split
    · simp
    · rename_i g2
      rw [if_neg g2] at h
      split
      · simp
      · rename_i g3
        rw [if_neg g3] at h
        split
        · simp
        · rename_i g4
          rw [if_neg g4] at h
          simp at h
theorem encF_length (f v : Nat) : (encF f v).length ≤ f := by
  induction f generalizing v with
  | zero => simp [encF]
  | succ f ih =>
    simp only [encF]
    split
    · simp
    · have := ih (v / 128); simp; omega
theorem enc_pos (v : Nat) : 0 < (enc v).length := by
  unfold enc
  simp only [encF]
  split <;> simp
theorem enc_len (v : Nat) : (enc v).length ≤ 10 := encF_length 10 v
theorem encF_mono (f : Nat) {v u : Nat} (h : v ≤ u) : (encF f v).length ≤ (encF f u).length := by
  induction f generalizing v u with
  | zero => simp [encF]
  | succ f ih =>
    by_cases h1 : u < 128
    · rw [encF_last f h1, encF_last f (by omega)]; simp
    · by_cases h2 : v < 128
      · rw [encF_last f h2, encF_more f (by omega)]; simp
      · rw [encF_more f (by omega), encF_more f (by omega)]
        have := ih (v := v / 128) (u := u / 128) (by omega)
        simpa using this
theorem enc_mono {v u : Nat} (h : v ≤ u) : (enc v).length ≤ (enc u).length := encF_mono 10 h
/-- No encoding is a beginning of another one. -/
theorem enc_prefix {v u : Nat} (hv : v < 18446744073709551616) (hu : u < 18446744073709551616) (h : (enc v).take (min (enc v).length (enc u).length) = (enc u).take (min (enc v).length (enc u).length)) : v = u := by
  have key : ∀ a b : Nat, a < 18446744073709551616 → b < 18446744073709551616 → (enc a).length ≤ (enc b).length → (enc a) = (enc b).take (enc a).length → a = b := by
    intro a b ha hb _ he
    have h1 := dec_enc hb []
    rw [List.append_nil] at h1
    have h2 := dec_enc ha ((enc b).drop (enc a).length)
    rw [show enc a ++ (enc b).drop (enc a).length = enc b by
      conv => lhs; rw [he]
      rw [List.length_take, Nat.min_eq_left (by assumption), List.take_append_drop]] at h2
    rw [h1] at h2
    exact (congrArg Prod.fst h2).symm
  rcases Nat.le_total (enc v).length (enc u).length with hl | hl
  · rw [Nat.min_eq_left hl, List.take_length] at h
    exact key v u hv hu hl h
  · rw [Nat.min_eq_right hl, List.take_length] at h
    exact (key u v hu hv hl h.symm).symm

/-- What a text at the beginning is: bytes, length, error. -/
def decT (l : List UInt8) : List UInt8 × Nat × Nat :=
  if (dec l).2.2 ≠ 0 then ([], 0, (dec l).2.2)
  else if 4096 < (dec l).1 then ([], 0, 3)
  else if l.length < (dec l).2.1 + (dec l).1 then ([], 0, 5)
  else ((l.drop (dec l).2.1).take (dec l).1, (dec l).2.1 + (dec l).1, 0)
def encT (s : List UInt8) : List UInt8 := enc s.length ++ s
theorem decT_encT (s rest : List UInt8) (h : s.length ≤ 4096) : decT (encT s ++ rest) = (s, (encT s).length, 0) := by
  have hd := dec_enc (v := s.length) (by omega) (s ++ rest)
  unfold decT encT
  rw [List.append_assoc, hd]
  simp only [ne_eq, not_true_eq_false, if_false]
  rw [if_neg (by omega), if_neg (by simp <;> omega)]
  simp
theorem decT_canon {l : List UInt8} (h : (decT l).2.2 = 0) : 1 ≤ (decT l).2.1 ∧ (decT l).2.1 ≤ l.length ∧ encT (decT l).1 = l.take (decT l).2.1 ∧ (decT l).1.length ≤ 4096 := by
  unfold decT at h ⊢
  by_cases g1 : (dec l).2.2 ≠ 0
  · rw [if_pos g1] at h; exact absurd h g1
  rw [if_neg g1] at h ⊢
  have g1' : (dec l).2.2 = 0 := by simpa using g1
  obtain ⟨c1, c2, _, c3, _⟩ := dec_canon g1'
  by_cases g2 : 4096 < (dec l).1
  · rw [if_pos g2] at h; simp at h
  rw [if_neg g2] at h ⊢
  by_cases g3 : l.length < (dec l).2.1 + (dec l).1
  · rw [if_pos g3] at h; simp at h
  rw [if_neg g3]
  have hl : ((l.drop (dec l).2.1).take (dec l).1).length = (dec l).1 := by simp; omega
  refine ⟨by simp; omega, by simp; omega, ?_, by simp only; omega⟩
  simp only [encT]
  rw [hl, c3, List.take_add]

def fixE (v : Nat) : List UInt8 := [UInt8.ofNat (v % 256), UInt8.ofNat (v / 256 % 256), UInt8.ofNat (v / 65536 % 256), UInt8.ofNat (v / 16777216 % 256)]
def fixV (l : List UInt8) : Nat := (l.getD 0 0).toNat + (l.getD 1 0).toNat * 256 + (l.getD 2 0).toNat * 65536 + (l.getD 3 0).toNat * 16777216
def decX (l : List UInt8) : Nat × Nat := if l.length < 4 then (0, 5) else (fixV l, 0)
theorem decX_fixE {v : Nat} (h : v < 4294967296) (rest : List UInt8) : decX (fixE v ++ rest) = (v, 0) := by
  unfold decX
  rw [if_neg (by simp [fixE] <;> omega)]
  simp only [fixE, fixV, List.cons_append, List.nil_append, List.getD_cons_zero, List.getD_cons_succ]
  rw [ofNat_toNat (by omega), ofNat_toNat (by omega), ofNat_toNat (by omega), ofNat_toNat (by omega)]
  congr 1
  omega
end

end Go.Proofs.YthoolifdmemceaaGreatDoor
