/-
Arrays by value: box, alloc, load and store of a whole array, store of one element. No program.
Arrays of eight groups in memory: no function of the program.
Hosts in memory: the value of a host, its variable as one row; the program's constructors.
-/
import Derived.Test.YtpccpgihldpiiaaGreatDoorC00
import Derived.Deep.WholeRow
import Derived.Test.YtpccpgihldpiiaaGreatDoorC08
import Derived.Laws.ResultCell
import Derived.Laws.Rows
import Derived.Test.YtpccpgihldpiiaaGreatDoorC04
import Derived.Test.YtpccpgihldpiiaaGreatDoorC07
namespace Go.Proofs.YtpccpgihldpiiaaGreatDoor
section
open Go.RowKit

/-- The row of block g. -/
def Row (w : World) (g : Nat) (t : TypeId) (c : Array Value) : Prop := w.heap[g]? = some (.cells c t (0, 0))
section
variable {w w' : World} {g g' B : Nat} {t : TypeId} {c : Array Value}
theorem Row.lt (h : Row w g t c) : g < w.heap.size := (Array.getElem?_eq_some_iff.1 h).1
theorem Row.below (h : Row w g t c) (hb : Below B w w') (hg : g < B) : Row w' g t c := (hb.block g hg).trans h
theorem Row.grown (h : Row w g t c) (hg : w.grownBy w' (some g')) (hne : g ≠ g') : Row w' g t c := (hg.block g h.lt (fun e => by injection e with e; exact hne e)).trans h
theorem Row.grown0 (h : Row w g t c) (hg : w.grownBy w' none) : Row w' g t c := (hg.block g h.lt (fun e => by cases e)).trans h
theorem Row.cell (h : Row w g t c) {k : Nat} (hk : k < c.size) : w.cell? ⟨g, k, none⟩ = some c[k] := by
  rw [cell_of_row w g k c t (0, 0) h, Array.getElem?_eq_getElem hk]
theorem row_new (w : World) (c : Array Value) (t : TypeId) : Row (w.alloc (.cells c t)) w.heap.size t c := heap_alloc_last w _
theorem below_row {w0 : World} (hb : Below B w0 w) (hg : w.grownBy w' (some g)) (hB : B ≤ w0.heap.size) (hr : B ≤ g) : Below B w0 w' :=
  hb.grown hg (by have := hb.size; omega) (fun k e => by injection e with e; omega)
theorem below_row0 {w0 : World} (hb : Below B w0 w) (hg : w.grownBy w' none) (hB : B ≤ w0.heap.size) : Below B w0 w' :=
  hb.grown hg (by have := hb.size; omega) (fun k e => by cases e)
theorem grown_setRow (w : World) (g : Nat) (c : Array Value) : w.grownBy (w.setRow g c) (some g) :=
  ⟨rfl, rfl, rfl, by rw [setRow_size]; exact Nat.le_refl _, fun i _ hne => setRow_other w g i c (fun e => hne (by rw [e]))⟩
end

variable {P : Program} (w : World) {ops : Array Oper} {rest : List Oper} {o : Oper} {a : Act} {Q : Exit → Act → World → Prop}

theorem wpList_box_arr (hg : o.guard = none) (d : Tmp) (_ : o.dst = some d) (t : TypeId) (x : Operand) (hop : o.op = .box t x) (v : Value) (c : Array Value) (hv : a.eval x = v) (hc : v.cells = c)
    (h : ∀ w' g, w.heap.size ≤ g → g < w'.heap.size → Row w' g t c → w.grownBy w' none → wpList P ops Q rest (a.put o.dst (.pointer (some ⟨g, 0, none⟩))) w') : wpList P ops Q (o :: rest) a w := by
  refine wpList_plain hg fun K hK => ?_
  subst hc
  have := h (w.alloc (.cells v.cells t)) w.heap.size (Nat.le_refl _) (by simp) (row_new w _ _) (World.grownBy_alloc w _ _)
  unfold Oper.wp
  simp [execOp, hop, hv, Instr.box, newVar, newRow, Result.andThen]
  exact hK _ _ this

theorem wpList_alloc_arr (hg : o.guard = none) (d : Tmp) (_ : o.dst = some d) (t : TypeId) (hop : o.op = .alloc t) (z : Array Value) (hz : ∀ w, (zeroValue t).run P w = .ok (.agg z) w)
    (h : ∀ w' g, w.heap.size ≤ g → g < w'.heap.size → Row w' g t z → w.grownBy w' none → wpList P ops Q rest (a.put o.dst (.pointer (some ⟨g, 0, none⟩))) w') : wpList P ops Q (o :: rest) a w := by
  refine wpList_plain hg fun K hK => ?_
  have := h (w.alloc (.cells z t)) w.heap.size (Nat.le_refl _) (by simp) (row_new w _ _) (World.grownBy_alloc w _ _)
  unfold Oper.wp
  simp [execOp, hop, Instr.alloc, hz, newVar, newRow, Result.andThen, Value.cells]
  exact hK _ _ this

theorem wpList_load_arr (hg : o.guard = none) (t : TypeId) (p : Operand) (hop : o.op = .load t p) (g : Nat) (hp : a.eval p = .pointer (some ⟨g, 0, none⟩)) (t' : TypeId) (c : Array Value) (hrow : Row w g t' c)
    (n : Nat) (e : TypeId) (hu : P.underlying t = some (.array n e)) (hi : (P.info? t).map (·.size) = some c.size)
    (h : wpList P ops Q rest (a.put o.dst (.agg c)) w) : wpList P ops Q (o :: rest) a w := by
  refine wpList_plain hg fun K hK => ?_
  have hl := run_loadVar_row (P := P) w g t' t c (0, 0) _ hrow hu rfl hi
  unfold Oper.wp
  simp only [execOp, hop, hp, Instr.loadAt, Instr.sureAddr, Sem.run_bind, Sem.run_pure, Result.andThen, hl]
  exact hK _ _ h

theorem wpList_store_arr (hg : o.guard = none) (hd : o.dst = none) (t : TypeId) (p x : Operand) (hop : o.op = .store t p x) (g : Nat) (hp : a.eval p = .pointer (some ⟨g, 0, none⟩)) (c' : Array Value) (hx : a.eval x = .agg c')
    (t' : TypeId) (c : Array Value) (hrow : Row w g t' c) (hi : (P.info? t).map (·.size) = some c'.size) (ho : c.size = c'.size) (h1 : c'.all (·.oneCell') = true)
    (h : ∀ w', Row w' g t' c' → w.grownBy w' (some g) → wpList P ops Q rest a w') : wpList P ops Q (o :: rest) a w := by
  refine wpList_plain hg fun K hK => ?_
  have hl := run_storeVar_row (P := P) w g t' t c c' hrow hi ho h1
  have : wpList P ops Q rest (a.put o.dst undef) (w.setRow g c') := by
    rw [hd]
    exact h (w.setRow g c') (setRow_heap w g c c' t' _ hrow) (grown_setRow w g c')
  unfold Oper.wp
  simp only [execOp, hop, hp, hx, Instr.storeAt, Instr.sureAddr, Sem.run_bind, Sem.run_pure, Result.andThen, hl]
  exact hK _ _ this

theorem wpList_store_cell (hg : o.guard = none) (hd : o.dst = none) (t : TypeId) (p x : Operand) (hop : o.op = .store t p x) (g k : Nat) (hp : a.eval p = .pointer (some ⟨g, k, none⟩)) (v : Value) (hx : a.eval x = v) (hv : v.oneCell' = true)
    (t' : TypeId) (c : Array Value) (hrow : Row w g t' c) (hk : k < c.size) (hi : (P.info? t).map (·.size) = some 1)
    (h : ∀ w', Row w' g t' (c.setIfInBounds k v) → w.grownBy w' (some g) → wpList P ops Q rest a w') : wpList P ops Q (o :: rest) a w := by
  refine wpList_plain hg fun K hK => ?_
  have hcell := hrow.cell hk
  have hfro : w.frozen? ⟨g, k, none⟩ = false := by
    have := hrow
    unfold Row at this
    simp [World.frozen?, this]
  have hst : (store (⟨g, k, none⟩ : Addr) v).run P w = .ok () (w.setRow g (c.setIfInBounds k v)) := by
    rw [run_store P w _ v _ hv, hcell]
    simp [hfro, setCell_eq_setRow w g k c t' (0, 0) v hrow]
  have hc : v.cells = #[v] := by cases v <;> first | rfl | cases hv
  have hl : (storeVar t ⟨g, k, none⟩ v).run P w = .ok () (w.setRow g (c.setIfInBounds k v)) := by
    cases hq : P.info? t with
    | none => simp [hq] at hi
    | some i =>
      have hs : i.size = 1 := by simp [hq] at hi; omega
      have hadd : (⟨g, k, none⟩ : Addr).add 0 = ⟨g, k, none⟩ := by unfold Addr.add; simp
      simp [storeVar, sizeOf, typeInfo, hq, hc, hs, storeCells, hadd, hst]
  have : wpList P ops Q rest (a.put o.dst undef) (w.setRow g (c.setIfInBounds k v)) := by
    rw [hd]
    exact h (w.setRow g (c.setIfInBounds k v)) (setRow_heap w g c _ t' _ hrow) (grown_setRow w g _)
  unfold Oper.wp
  simp only [execOp, hop, hp, hx, Instr.storeAt, Instr.sureAddr, Sem.run_bind, Sem.run_pure, Result.andThen, hl]
  exact hK _ _ this

/-- 'x >> k' of 32 bits, k a variable. -/
theorem wpList_shr32 (hg : o.guard = none) (t u : TypeId) (x y : Operand) (hop : o.op = .binOp .shr t x y u) (_hu : P.underlying t = some (.int .u32)) (n : Int) (k : Nat) (hk : k ≤ 32) (hx : a.eval x = .int .u32 n) (hy : a.eval y = .int .i64 (k : Int))
    (r : Int) (hr : n / 2 ^ k = r) (h : wpList P ops Q rest (a.put o.dst (.int .u32 r)) w) : wpList P ops Q (o :: rest) a w := by
  refine wpList_plain hg fun K hK => ?_
  subst hr
  have e : Int.fdiv n (2 ^ min ((k : Int)).toNat IntKind.u32.bits) = n / 2 ^ k := by
    have : min ((k : Int).toNat) IntKind.u32.bits = k := by simp [IntKind.bits]; omega
    rw [this, Int.fdiv_eq_ediv_of_nonneg _ (Int.pow_nonneg (by decide))]
  rw [← e] at h
  unfold Oper.wp
  simp [execOp, hop, hx, hy, Result.andThen]
  exact hK _ _ h

/-- 'x << k', k a variable below the size. -/
theorem wpList_shl (hg : o.guard = none) (t u : TypeId) (x y : Operand) (hop : o.op = .binOp .shl t x y u) (q : IntKind) (n : Int) (k : Nat) (hk : k ≤ q.bits) (hx : a.eval x = .int q n) (hy : a.eval y = .int .i64 (k : Int))
    (r : Int) (hr : q.wrap (n * 2 ^ k) = r) (h : wpList P ops Q rest (a.put o.dst (.int q r)) w) : wpList P ops Q (o :: rest) a w := by
  refine wpList_plain hg fun K hK => ?_
  have e : q.wrap (n * 2 ^ min ((k : Int)).toNat q.bits) = r := by
    have : min ((k : Int).toNat) q.bits = k := by simp; omega
    rw [this, hr]
  rw [← e] at h
  unfold Oper.wp
  simp [execOp, hop, hx, hy, Result.andThen]
  exact hK _ _ h

/-- A result that lies in a variable of an array's type. -/
theorem ret_cell_arr {fn : Func} {R : Ending → World → Prop} {a : Act} {w : World} (p : Tmp) (t : TypeId) (hres : fn.results = #[.cell p t]) (g : Nat) (hp : a.tmps.getD p undef = .pointer (some ⟨g, 0, none⟩))
    (t' : TypeId) (c : Array Value) (hrow : Row w g t' c) (n : Nat) (e : TypeId) (hu : P.underlying t = some (.array n e)) (hi : (P.info? t).map (·.size) = some c.size) (hd : a.defers = [])
    (hR : R (.returned (.agg c)) w) : bodyPost P fn R .ret a w := by
  refine bodyPost_ret (v := .agg c) ?_ hd hR
  have hl := run_loadVar_row (P := P) w g t' t c (0, 0) _ hrow hu rfl hi
  have hp' : a.tmps[p]?.getD undef = .pointer (some ⟨g, 0, none⟩) := by simpa using hp
  simp only [results, hres]
  simp [asAddr, hp', hl]

/-- The load of a whole array, and the store of one cell, as steps of a region that draws its order. -/
theorem step_load_arr {K : Act → World → Prop} {E : Prop} (hg : o.guard = none) (t : TypeId) (p : Operand) (hop : o.op = .load t p) (g : Nat) (hp : a.eval p = .pointer (some ⟨g, 0, none⟩)) (t' : TypeId) (c : Array Value) (hrow : Row w g t' c)
    (n : Nat) (e : TypeId) (hu : P.underlying t = some (.array n e)) (hi : (P.info? t).map (·.size) = some c.size)
    (h : K (a.put o.dst (.agg c)) w) : if Region.wanted o (yielded ops a.tmps) = true then Oper.wp P o a w K Q else E := by
  have hw : Region.wanted o (yielded ops a.tmps) = true := by simp [Region.wanted, hg]
  rw [if_pos hw]
  have hl := run_loadVar_row (P := P) w g t' t c (0, 0) _ hrow hu rfl hi
  unfold Oper.wp
  simp only [execOp, hop, hp, Instr.loadAt, Instr.sureAddr, Sem.run_bind, Sem.run_pure, Result.andThen, hl]
  exact h

theorem run_store_row (t : TypeId) (g k : Nat) (v : Value) (hv : v.oneCell' = true) (t' : TypeId) (c : Array Value) (hrow : Row w g t' c) (hk : k < c.size) (hi : (P.info? t).map (·.size) = some 1) :
    (storeVar t ⟨g, k, none⟩ v).run P w = .ok () (w.setRow g (c.setIfInBounds k v)) := by
  have hcell := hrow.cell hk
  have hfro : w.frozen? ⟨g, k, none⟩ = false := by
    have := hrow
    unfold Row at this
    simp [World.frozen?, this]
  have hst : (store (⟨g, k, none⟩ : Addr) v).run P w = .ok () (w.setRow g (c.setIfInBounds k v)) := by
    rw [run_store P w _ v _ hv, hcell]
    simp [hfro, setCell_eq_setRow w g k c t' (0, 0) v hrow]
  have hc : v.cells = #[v] := by cases v <;> first | rfl | cases hv
  cases hq : P.info? t with
  | none => simp [hq] at hi
  | some i =>
    have hs : i.size = 1 := by simp [hq] at hi; omega
    have hadd : (⟨g, k, none⟩ : Addr).add 0 = ⟨g, k, none⟩ := by unfold Addr.add; simp
    simp [storeVar, sizeOf, typeInfo, hq, hc, hs, storeCells, hadd, hst]

theorem step_store_cell {K : Act → World → Prop} {E : Prop} (hg : o.guard = none) (hd : o.dst = none) (t : TypeId) (p x : Operand) (hop : o.op = .store t p x) (g k : Nat) (hp : a.eval p = .pointer (some ⟨g, k, none⟩)) (v : Value) (hx : a.eval x = v) (hv : v.oneCell' = true)
    (t' : TypeId) (c : Array Value) (hrow : Row w g t' c) (hk : k < c.size) (hi : (P.info? t).map (·.size) = some 1)
    (h : ∀ w', Row w' g t' (c.setIfInBounds k v) → w.grownBy w' (some g) → K a w') : if Region.wanted o (yielded ops a.tmps) = true then Oper.wp P o a w K Q else E := by
  have hw : Region.wanted o (yielded ops a.tmps) = true := by simp [Region.wanted, hg]
  rw [if_pos hw]
  have hl := run_store_row (P := P) w t g k v hv t' c hrow hk hi
  have : K (a.put o.dst undef) (w.setRow g (c.setIfInBounds k v)) := by
    rw [hd]
    exact h (w.setRow g (c.setIfInBounds k v)) (setRow_heap w g c _ t' _ hrow) (grown_setRow w g _)
  unfold Oper.wp
  simp only [execOp, hop, hp, hx, Instr.storeAt, Instr.sureAddr, Sem.run_bind, Sem.run_pure, Result.andThen, hl]
  exact this

/-- An element of an array by value. -/
theorem run_index_arr (t e : TypeId) (n : Nat) (k : IntKind) (hu : P.underlying t = some (.array n e)) (he : P.underlying e = some (.int k)) (hs : (P.info? e).map (·.size) = some 1) (c : Array Value) (i : Nat) (hi : i < n) (v : Value) (hc : c[i]? = some v) :
    ∀ w, (Instr.index t (.agg c) (.int .i64 (i : Int))).run P w = .ok v w := by
  intro w
  cases hq : P.info? e with
  | none => simp [hq] at hs
  | some q =>
    have h1 : q.size = 1 := by simp [hq] at hs; omega
    have hr : (0 : Int) ≤ (i : Int) ∧ (i : Int) < (n : Int) := by omega
    simp [Instr.index, run_underlying hu, run_underlying he, asIntOf, hr, part, isAgg, sizeOf, typeInfo, hq, h1, hc, Result.andThen]
    omega
end

section
open Go.RowKit

/-- Eight groups as a value's cells. -/
def av (C : List Nat) : Array Value := (uv C).toArray
theorem av_size (C : List Nat) : (av C).size = C.length := by simp [av, uv]
theorem av_set (C : List Nat) (k : Nat) (x : Nat) : (av C).setIfInBounds k (.int .u16 (x : Int)) = av (C.set k x) := by
  apply Array.ext'
  rw [Array.toList_setIfInBounds]
  simp [av, uv, List.map_set]
theorem av_one (C : List Nat) : (av C).all (·.oneCell') = true := by
  rw [Array.all_eq_true_iff_forall_mem]
  intro v hv
  have : v ∈ uv C := by simpa [av] using hv
  exact uv_one C v this
theorem av_get (C : List Nat) (k : Nat) (h : k < C.length) : (av C)[k]? = some (.int .u16 ((C.getD k 0 : Nat) : Int)) := by
  simp [av, uv, List.getD_eq_getElem?_getD, List.getElem?_eq_getElem h]
theorem tyA8 : Tryz.prog.underlying 25 = some (.array 8 24) := by kernel_rfl
theorem infoA8 : (Tryz.prog.info? 25).map (fun i => (i.zero, i.size)) = some (some (.agg (av (zerosN 8))), 8) := by kernel_rfl
theorem sizeA8 : (Tryz.prog.info? 25).map (·.size) = some 8 := by kernel_rfl
theorem sizeA (C : List Nat) (h : C.length = 8) : (Tryz.prog.info? 25).map (·.size) = some (av C).size := by rw [av_size, h]; exact sizeA8
theorem zeroA8 : ∀ w, (zeroValue 25).run Tryz.prog w = .ok (.agg (av (zerosN 8))) w := by
  intro w
  cases hi : Tryz.prog.info? 25 with
  | none => have := infoA8; rw [hi] at this; cases this
  | some i =>
    have := infoA8
    rw [hi] at this
    simp only [Option.map_some, Option.some.injEq, Prod.mk.injEq] at this
    simp [zeroValue, typeInfo, hi, this.1]
/-- An array's variable. -/
def RowA (w : World) (g : Nat) (C : List Nat) : Prop := Row w g 25 (av C)
theorem RowA.cell {w : World} {g : Nat} {C : List Nat} (h : RowA w g C) {k : Nat} (hk : k < C.length) : w.cell? ⟨g, k, none⟩ = some (.int .u16 ((C.getD k 0 : Nat) : Int)) := by
  rw [cell_of_row w g k _ _ (0, 0) h, av_get C k hk]
theorem ret_a8 {fn : Func} {R : Ending → World → Prop} {a : Act} {w : World} (p u : Tmp) (hres : fn.results = #[.cell p 25, .tmp u]) (b : Nat) (hp : a.tmps.getD p undef = .pointer (some ⟨b, 0, none⟩))
    (C : List Nat) (hrow : RowA w b C) (hc : C.length = 8) (v : Value) (hv : a.tmps.getD u undef = v) (hd : a.defers = []) (hR : R (.returned (.tuple #[.agg (av C), v])) w) : bodyPost Tryz.prog fn R .ret a w := by
  refine bodyPost_ret (v := .tuple #[.agg (av C), v]) ?_ hd hR
  have hl := run_loadVar_row (P := Tryz.prog) w b _ _ (av C) (0, 0) _ hrow tyA8 rfl (sizeA C hc)
  rw [results_cell_tmp hres, hp, hv]
  simp [asAddr, Result.andThen, hl]
/-- The content behind storing the first groups. -/
theorem set_step (g : List Nat) (k n : Nat) (hk : k < g.length) (hn : k < n) : (g.take k ++ zerosN (n - k)).set k (g.getD k 0) = g.take (k + 1) ++ zerosN (n - (k + 1)) := by
  rw [List.set_append_right _ _ (by simp; omega), List.take_succ_eq_append_getElem hk]
  simp only [List.length_take, List.append_assoc]
  rw [show k - min k g.length = 0 by omega, show n - k = (n - (k + 1)) + 1 by omega]
  rw [List.getD_eq_getElem?_getD, List.getElem?_eq_getElem hk, Option.getD_some]
  rfl
theorem set_step2 (p g : List Nat) (k n : Nat) (hk : k < g.length) (hn : k < n) : (p ++ (g.take k ++ zerosN (n - k))).set (p.length + k) (g.getD k 0) = p ++ (g.take (k + 1) ++ zerosN (n - (k + 1))) := by
  rw [List.set_append_right _ _ (by omega), show p.length + k - p.length = k by omega, set_step g k n hk hn]
end

section
open Go.RowKit

/-- The cells of a host. -/
def hc (k : Int) (n : ByteArray) (v : Int) (g : List Nat) : Array Value :=
  #[.int .i64 k, .string n, .int .u32 v, .int .u16 ((g.getD 0 0 : Nat) : Int), .int .u16 ((g.getD 1 0 : Nat) : Int), .int .u16 ((g.getD 2 0 : Nat) : Int), .int .u16 ((g.getD 3 0 : Nat) : Int),
    .int .u16 ((g.getD 4 0 : Nat) : Int), .int .u16 ((g.getD 5 0 : Nat) : Int), .int .u16 ((g.getD 6 0 : Nat) : Int), .int .u16 ((g.getD 7 0 : Nat) : Int)]
theorem hc_size (k : Int) (n : ByteArray) (v : Int) (g : List Nat) : (hc k n v g).size = 11 := rfl
theorem hc_one (k : Int) (n : ByteArray) (v : Int) (g : List Nat) : (hc k n v g).all (·.oneCell') = true := by
  simp [hc, Value.oneCell']
def Hv.cells (h : Hv) : Array Value := hc h.kind (bs h.name) (h.v4 : Nat) h.v6
def Hv.val (h : Hv) : Value := .agg h.cells
theorem hc_z8 (k : Int) (n : ByteArray) (v : Int) : hc k n v z8 = #[.int .i64 k, .string n, .int .u32 v, .int .u16 0, .int .u16 0, .int .u16 0, .int .u16 0, .int .u16 0, .int .u16 0, .int .u16 0, .int .u16 0] := rfl
theorem av8 (g : List Nat) (h : g.length = 8) : av g = #[.int .u16 ((g.getD 0 0 : Nat) : Int), .int .u16 ((g.getD 1 0 : Nat) : Int), .int .u16 ((g.getD 2 0 : Nat) : Int), .int .u16 ((g.getD 3 0 : Nat) : Int),
    .int .u16 ((g.getD 4 0 : Nat) : Int), .int .u16 ((g.getD 5 0 : Nat) : Int), .int .u16 ((g.getD 6 0 : Nat) : Int), .int .u16 ((g.getD 7 0 : Nat) : Int)] := by
  match g, h with
  | [a, b, c, d, e, f, i, j], _ => rfl

theorem hostUnd : (Tryz.prog.underlying 27).map (fun d => match d with | .struct _ | .array _ _ => true | _ => false) = some true := by kernel_rfl
theorem hostSize : (Tryz.prog.info? 27).map (·.size) = some 11 := by kernel_rfl
/-- A host's variable. -/
def RowH (w : World) (b : Nat) (c : Array Value) : Prop := Row w b 27 c
theorem load_host {w : World} {b : Nat} {c : Array Value} (h : RowH w b c) (hc : c.size = 11) : (loadVar 27 ⟨b, 0, none⟩).run Tryz.prog w = .ok (.agg c) w := by
  have hu := hostUnd
  obtain ⟨d, hd⟩ : ∃ d, Tryz.prog.underlying 27 = some d := by
    cases hx : Tryz.prog.underlying 27 with
    | none => rw [hx] at hu; cases hu
    | some d => exact ⟨d, rfl⟩
  rw [hd] at hu
  cases d <;> first
    | exact run_loadVar_row (P := Tryz.prog) w b _ _ c (0, 0) _ h hd rfl (by rw [hc]; exact hostSize)
    | cases hu
theorem wpList_load_host {ops : Array Oper} {rest : List Oper} {o : Oper} {a : Act} {w : World} {Q : Exit → Act → World → Prop} (hgd : o.guard = none) (x : Operand) (ho : o.op = .load 27 x)
    (g : Nat) (hx : a.eval x = .pointer (some ⟨g, 0, none⟩)) (c : Array Value) (h0 : RowH w g c) (hc : c.size = 11)
    (h : wpList Tryz.prog ops Q rest (a.put o.dst (.agg c)) w) : wpList Tryz.prog ops Q (o :: rest) a w := by
  have hu := hostUnd
  obtain ⟨d, hd⟩ : ∃ d, Tryz.prog.underlying 27 = some d := by
    cases hx : Tryz.prog.underlying 27 with
    | none => rw [hx] at hu; cases hu
    | some d => exact ⟨d, rfl⟩
  rw [hd] at hu
  cases d <;> first
    | exact wpList_load_row hgd _ x ho g hx _ c (0, 0) _ h0 hd rfl (by rw [hc]; exact hostSize) h
    | cases hu
theorem ret_host {fn : Func} {R : Ending → World → Prop} {a : Act} {w : World} (p u : Tmp) (hres : fn.results = #[.cell p 27, .tmp u]) (b : Nat) (hp : a.tmps.getD p undef = .pointer (some ⟨b, 0, none⟩))
    (c : Array Value) (hrow : RowH w b c) (hc : c.size = 11) (v : Value) (hv : a.tmps.getD u undef = v) (hd : a.defers = []) (hR : R (.returned (.tuple #[.agg c, v])) w) : bodyPost Tryz.prog fn R .ret a w := by
  refine bodyPost_ret (v := .tuple #[.agg c, v]) ?_ hd hR
  rw [results_cell_tmp hres, hp, hv]
  simp [asAddr, Result.andThen, load_host hrow hc]
theorem ret_host1 {fn : Func} {R : Ending → World → Prop} {a : Act} {w : World} (p : Tmp) (hres : fn.results = #[.cell p 27]) (b : Nat) (hp : a.tmps.getD p undef = .pointer (some ⟨b, 0, none⟩))
    (c : Array Value) (hrow : RowH w b c) (hc : c.size = 11) (hd : a.defers = []) (hR : R (.returned (.agg c)) w) : bodyPost Tryz.prog fn R .ret a w := by
  refine bodyPost_ret (v := .agg c) ?_ hd hR
  have hp' : a.tmps[p]?.getD undef = .pointer (some ⟨b, 0, none⟩) := by simpa using hp
  simp [results, hres, hp', asAddr, load_host hrow hc]

theorem domainHost_any (s : ByteArray) (w : World) : Calls Tryz.prog 127 #[.string s] w fun e w' => e = .returned (.agg (hc 1 s 0 z8)) ∧ Below w.heap.size w w' := by
  go_enter Tryz.func127, Tryz.ntmps127
  go_wp2
  exact ret_host1 2 rfl w.heap.size rfl (hc 1 s 0 z8) (row_new w _ _) rfl rfl ⟨rfl, (Below.refl _ _).alloc (Nat.le_refl _) _⟩
theorem ipv4Host_any (v : Int) (w : World) : Calls Tryz.prog 84 #[.int .u32 v] w fun e w' => e = .returned (.agg (hc 2 ⟨#[]⟩ v z8)) ∧ Below w.heap.size w w' := by
  go_enter Tryz.func84, Tryz.ntmps84
  go_wp2
  exact ret_host1 2 rfl w.heap.size rfl (hc 2 ⟨#[]⟩ v z8) (row_new w _ _) rfl rfl ⟨rfl, (Below.refl _ _).alloc (Nat.le_refl _) _⟩
theorem ipv6Host_any (g : List Nat) (hg : g.length = 8) (w : World) : Calls Tryz.prog 76 #[.agg (av g)] w fun e w' => e = .returned (.agg (hc 3 ⟨#[]⟩ 0 g)) ∧ Below w.heap.size w w' := by
  match g, hg with
  | [a, b, c, d, x, f, i, j], _ =>
    rw [show av [a, b, c, d, x, f, i, j] = #[.int .u16 (a : Int), .int .u16 (b : Int), .int .u16 (c : Int), .int .u16 (d : Int), .int .u16 (x : Int), .int .u16 (f : Int), .int .u16 (i : Int), .int .u16 (j : Int)] from rfl]
    go_enter Tryz.func76, Tryz.ntmps76
    go_wp2
    refine ret_host1 2 rfl (w.heap.size + 1) rfl (hc 3 ⟨#[]⟩ 0 [a, b, c, d, x, f, i, j]) ?_ rfl rfl ⟨rfl, ((Below.refl _ _).alloc (Nat.le_refl _) _).alloc (by simp) _⟩
    have := row_new (w.alloc (.cells #[.int .u16 (a : Int), .int .u16 (b : Int), .int .u16 (c : Int), .int .u16 (d : Int), .int .u16 (x : Int), .int .u16 (f : Int), .int .u16 (i : Int), .int .u16 (j : Int)] 25)) (hc 3 ⟨#[]⟩ 0 [a, b, c, d, x, f, i, j]) 27
    rw [World.size_alloc] at this
    exact this
end

end Go.Proofs.YtpccpgihldpiiaaGreatDoor
