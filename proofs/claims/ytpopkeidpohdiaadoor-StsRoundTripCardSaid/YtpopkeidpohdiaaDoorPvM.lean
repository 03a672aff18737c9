/-
  Policies in memory: a policy's variable as one row of two cells.
-/
import Derived.Test.YtpopkeidpohdiaaDoorDvM
namespace Go.Proofs.YtpopkeidpohdiaaDoor
open Go.RowKit

theorem pv_one (a : Int) (s : Bool) : (#[Value.int .i64 a, .bool s]).all (·.oneCell') = true := by simp [Value.oneCell']
theorem zeroPv (w : World) : (zeroValue 23).run Tryd.prog w = .ok (.agg #[.int .i64 0, .bool false]) w := (zero_of_info (P := Tryd.prog) (t := 23) (v := .agg #[.int .i64 0, .bool false]) (n := 2) (by kernel_rfl)).1 w
theorem pvUnd : (Tryd.prog.underlying 23).map (fun d => match d with | .struct _ | .array _ _ => true | _ => false) = some true := by kernel_rfl
theorem pvSize : (Tryd.prog.info? 23).map (·.size) = some 2 := by kernel_rfl
theorem intSize1 : (Tryd.prog.info? 3).map (·.size) = some 1 := by kernel_rfl
/-- A policy's variable. -/
def RowPv (w : World) (b : Nat) (a : Int) (s : Bool) : Prop := Row w b 23 #[.int .i64 a, .bool s]
theorem RowPv.cells {w : World} {b : Nat} {a : Int} {s : Bool} (hr : RowPv w b a s) : w.cell? ⟨b, 0, none⟩ = some (.int .i64 a) ∧ w.cell? ⟨b, 1, none⟩ = some (.bool s) :=
  ⟨Row.cell hr (k := 0) (by simp), Row.cell hr (k := 1) (by simp)⟩
theorem load_pv {w : World} {b : Nat} {a : Int} {s : Bool} (hr : RowPv w b a s) : (loadVar 23 ⟨b, 0, none⟩).run Tryd.prog w = .ok (.agg #[.int .i64 a, .bool s]) w := by
  have hu := pvUnd
  obtain ⟨d, hd⟩ : ∃ d, Tryd.prog.underlying 23 = some d := by
    cases hx : Tryd.prog.underlying 23 with
    | none => rw [hx] at hu; cases hu
    | some d => exact ⟨d, rfl⟩
  rw [hd] at hu
  cases d <;> first
    | exact run_loadVar_row (P := Tryd.prog) w b _ _ _ (0, 0) _ hr hd rfl pvSize
    | cases hu
/-- A load of a policy's variable, guarded or not. -/
theorem wpList_load_pv {ops : Array Oper} {rest : List Oper} {o : Oper} {a : Act} {w : World} {Q : Exit → Act → World → Prop} (hw : Region.wanted o (yielded ops a.tmps) = true) (x : Operand) (ho : o.op = .load 23 x)
    (g : Nat) (hx : a.eval x = .pointer (some ⟨g, 0, none⟩)) (n : Int) (s : Bool) (h0 : RowPv w g n s)
    (h : wpList Tryd.prog ops Q rest (a.put o.dst (.agg #[.int .i64 n, .bool s])) w) : wpList Tryd.prog ops Q (o :: rest) a w := by
  have hl := load_pv h0
  unfold wpList
  rw [if_pos hw]
  left
  unfold Oper.wp
  simp only [execOp, ho, hx, Instr.loadAt, Instr.sureAddr, Sem.run_bind, Sem.run_pure, Result.andThen, hl]
  exact h
theorem wpList_store_pv {ops : Array Oper} {rest : List Oper} {o : Oper} {a : Act} {w : World} {Q : Exit → Act → World → Prop} (hgd : o.guard = none) (hd : o.dst = none) (p x : Operand) (ho : o.op = .store 23 p x)
    (g : Nat) (hp : a.eval p = .pointer (some ⟨g, 0, none⟩)) (n' : Int) (s' : Bool) (hx : a.eval x = .agg #[.int .i64 n', .bool s']) (n : Int) (s : Bool) (hrow : RowPv w g n s)
    (h : ∀ w', RowPv w' g n' s' → w.grownBy w' (some g) → wpList Tryd.prog ops Q rest a w') : wpList Tryd.prog ops Q (o :: rest) a w :=
  wpList_store_arr w hgd hd _ p x ho g hp #[.int .i64 n', .bool s'] hx _ _ hrow pvSize rfl (pv_one _ _) h
/-- Stores of the period and of whether the subdomains are meant. -/
theorem wpList_store_pv0 {ops : Array Oper} {rest : List Oper} {o : Oper} {a : Act} {w : World} {Q : Exit → Act → World → Prop} (hgd : o.guard = none) (hd : o.dst = none) (p x : Operand) (ho : o.op = .store 3 p x)
    (g : Nat) (hp : a.eval p = .pointer (some ⟨g, 0, none⟩)) (n' : Int) (hx : a.eval x = .int .i64 n') (n : Int) (s : Bool) (hrow : RowPv w g n s)
    (h : ∀ w', RowPv w' g n' s → w.grownBy w' (some g) → wpList Tryd.prog ops Q rest a w') : wpList Tryd.prog ops Q (o :: rest) a w :=
  wpList_store_cell w hgd hd _ p x ho g 0 hp _ hx rfl _ _ hrow (by simp) intSize1 h
theorem wpList_store_pv1 {ops : Array Oper} {rest : List Oper} {o : Oper} {a : Act} {w : World} {Q : Exit → Act → World → Prop} (hgd : o.guard = none) (hd : o.dst = none) (p x : Operand) (ho : o.op = .store 4 p x)
    (g : Nat) (hp : a.eval p = .pointer (some ⟨g, 1, none⟩)) (s' : Bool) (hx : a.eval x = .bool s') (n : Int) (s : Bool) (hrow : RowPv w g n s)
    (h : ∀ w', RowPv w' g n s' → w.grownBy w' (some g) → wpList Tryd.prog ops Q rest a w') : wpList Tryd.prog ops Q (o :: rest) a w :=
  wpList_store_cell w hgd hd _ p x ho g 1 hp _ hx rfl _ _ hrow (by simp) boolSize1 h
theorem ret_pv {fn : Func} {R : Ending → World → Prop} {a : Act} {w : World} (p u : Tmp) (hres : fn.results = #[.cell p 23, .tmp u]) (b : Nat) (hp : a.tmps.getD p undef = .pointer (some ⟨b, 0, none⟩))
    (n : Int) (s : Bool) (hrow : RowPv w b n s) (v : Value) (hv : a.tmps.getD u undef = v) (hd : a.defers = []) (hR : R (.returned (.tuple #[.agg #[.int .i64 n, .bool s], v])) w) : bodyPost Tryd.prog fn R .ret a w := by
  refine bodyPost_ret (v := .tuple #[.agg #[.int .i64 n, .bool s], v]) ?_ hd hR
  rw [results_cell_tmp hres, hp, hv]
  simp [asAddr, Result.andThen, load_pv hrow]
theorem eq_pv (a b : Int) (s t : Bool) (W : World) :
    (binOp .eql 23 (.agg #[.int .i64 a, .bool s]) (.agg #[.int .i64 b, .bool t])).run Tryd.prog W = .ok (.bool (decide (a = b) && (s == t))) W := by
  by_cases h1 : a = b
  · cases s <;> cases t <;> simp [go_sem, h1]
  · simp [go_sem, h1]

end Go.Proofs.YtpopkeidpohdiaaDoor
