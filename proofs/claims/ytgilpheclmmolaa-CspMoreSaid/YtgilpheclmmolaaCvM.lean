/-
  What header fields say, in memory: a variable of that type as one row of three cells.
-/
import Derived.Test.YtgilpheclmmolaaRow
import Derived.Test.YtgilpheclmmolaaTyT
namespace Go.Proofs.Ytgilpheclmmolaa
open Go.RowKit

theorem cv_one (u s : Bool) (A : Option Addr) (n c : Nat) : (#[Value.bool u, .bool s, .slice A n c]).all (·.oneCell') = true := by simp [Value.oneCell']
theorem zeroCv (w : World) : (zeroValue 26).run Try.prog w = .ok (.agg #[.bool false, .bool false, .slice none 0 0]) w := (zero_of_info (P := Try.prog) (t := 26) (v := .agg #[.bool false, .bool false, .slice none 0 0]) (n := 3) (by kernel_rfl)).1 w
theorem cvUnd : (Try.prog.underlying 26).map (fun d => match d with | .struct _ | .array _ _ => true | _ => false) = some true := by kernel_rfl
theorem cvSize : (Try.prog.info? 26).map (·.size) = some 3 := by kernel_rfl
theorem boolSize1 : (Try.prog.info? 4).map (·.size) = some 1 := by kernel_rfl
theorem strsSize1 : (Try.prog.info? 22).map (·.size) = some 1 := by kernel_rfl
/-- The variable. -/
def RowCv (w : World) (b : Nat) (u s : Bool) (A : Option Addr) (n c : Nat) : Prop := Row w b 26 #[.bool u, .bool s, .slice A n c]
section
variable {w : World} {b : Nat} {u s : Bool} {A : Option Addr} {n c : Nat}
theorem RowCv.cells (hr : RowCv w b u s A n c) : w.cell? ⟨b, 0, none⟩ = some (.bool u) ∧ w.cell? ⟨b, 1, none⟩ = some (.bool s) ∧ w.cell? ⟨b, 2, none⟩ = some (.slice A n c) :=
  ⟨Row.cell hr (k := 0) (by simp), Row.cell hr (k := 1) (by simp), Row.cell hr (k := 2) (by simp)⟩
theorem load_cv (hr : RowCv w b u s A n c) : (loadVar 26 ⟨b, 0, none⟩).run Try.prog w = .ok (.agg #[.bool u, .bool s, .slice A n c]) w := by
  have hu := cvUnd
  obtain ⟨d, hd⟩ : ∃ d, Try.prog.underlying 26 = some d := by
    cases hx : Try.prog.underlying 26 with
    | none => rw [hx] at hu; cases hu
    | some d => exact ⟨d, rfl⟩
  rw [hd] at hu
  cases d <;> first
    | exact run_loadVar_row (P := Try.prog) w b _ _ _ (0, 0) _ hr hd rfl cvSize
    | cases hu
variable {ops : Array Oper} {rest : List Oper} {o : Oper} {a : Act} {Q : Exit → Act → World → Prop}
/-- A load of the variable, guarded or not. -/
theorem wpList_load_cv (hw : Region.wanted o (yielded ops a.tmps) = true) (x : Operand) (ho : o.op = .load 26 x)
    (g : Nat) (hx : a.eval x = .pointer (some ⟨g, 0, none⟩)) (u s : Bool) (A : Option Addr) (n c : Nat) (h0 : RowCv w g u s A n c)
    (h : wpList Try.prog ops Q rest (a.put o.dst (.agg #[.bool u, .bool s, .slice A n c])) w) : wpList Try.prog ops Q (o :: rest) a w := by
  have hl := load_cv h0
  unfold wpList
  rw [if_pos hw]
  left
  unfold Oper.wp
  simp only [execOp, ho, hx, Instr.loadAt, Instr.sureAddr, Sem.run_bind, Sem.run_pure, Result.andThen, hl]
  exact h
theorem wpList_store_cv (hgd : o.guard = none) (hd : o.dst = none) (p x : Operand) (ho : o.op = .store 26 p x)
    (g : Nat) (hp : a.eval p = .pointer (some ⟨g, 0, none⟩)) (u' s' : Bool) (A' : Option Addr) (n' c' : Nat) (hx : a.eval x = .agg #[.bool u', .bool s', .slice A' n' c']) (u s : Bool) (A : Option Addr) (n c : Nat) (hrow : RowCv w g u s A n c)
    (h : ∀ w', RowCv w' g u' s' A' n' c' → w.grownBy w' (some g) → wpList Try.prog ops Q rest a w') : wpList Try.prog ops Q (o :: rest) a w :=
  wpList_store_arr w hgd hd _ p x ho g hp #[.bool u', .bool s', .slice A' n' c'] hx _ _ hrow cvSize rfl (cv_one _ _ _ _ _) h
theorem wpListIn_store_cv {F : Fence} {m : Nat} (hgd : o.guard = none) (hd : o.dst = none) (p x : Operand) (ho : o.op = .store 26 p x)
    (g : Nat) (hp : a.eval p = .pointer (some ⟨g, 0, none⟩)) (u' s' : Bool) (A' : Option Addr) (n' c' : Nat) (hx : a.eval x = .agg #[.bool u', .bool s', .slice A' n' c']) (u s : Bool) (A : Option Addr) (n c : Nat) (hrow : RowCv w g u s A n c)
    (h : ∀ w', RowCv w' g u' s' A' n' c' → w.grownBy w' (some g) → wpListIn F m Try.prog ops Q rest a w') : wpListIn F m Try.prog ops Q (o :: rest) a w :=
  wpListIn_store_row w hgd hd _ p x ho g hp #[.bool u', .bool s', .slice A' n' c'] hx _ _ hrow cvSize rfl (cv_one _ _ _ _ _) h
/-- Stores of the three fields. -/
theorem wpList_store_cv0 (hgd : o.guard = none) (hd : o.dst = none) (p x : Operand) (ho : o.op = .store 4 p x)
    (g : Nat) (hp : a.eval p = .pointer (some ⟨g, 0, none⟩)) (u' : Bool) (hx : a.eval x = .bool u') (u s : Bool) (A : Option Addr) (n c : Nat) (hrow : RowCv w g u s A n c)
    (h : ∀ w', RowCv w' g u' s A n c → w.grownBy w' (some g) → wpList Try.prog ops Q rest a w') : wpList Try.prog ops Q (o :: rest) a w :=
  wpList_store_cell w hgd hd _ p x ho g 0 hp _ hx rfl _ _ hrow (by simp) boolSize1 h
theorem wpList_store_cv1 (hgd : o.guard = none) (hd : o.dst = none) (p x : Operand) (ho : o.op = .store 4 p x)
    (g : Nat) (hp : a.eval p = .pointer (some ⟨g, 1, none⟩)) (s' : Bool) (hx : a.eval x = .bool s') (u s : Bool) (A : Option Addr) (n c : Nat) (hrow : RowCv w g u s A n c)
    (h : ∀ w', RowCv w' g u s' A n c → w.grownBy w' (some g) → wpList Try.prog ops Q rest a w') : wpList Try.prog ops Q (o :: rest) a w :=
  wpList_store_cell w hgd hd _ p x ho g 1 hp _ hx rfl _ _ hrow (by simp) boolSize1 h
theorem wpList_store_cv2 (hgd : o.guard = none) (hd : o.dst = none) (p x : Operand) (ho : o.op = .store 22 p x)
    (g : Nat) (hp : a.eval p = .pointer (some ⟨g, 2, none⟩)) (A' : Option Addr) (n' c' : Nat) (hx : a.eval x = .slice A' n' c') (u s : Bool) (A : Option Addr) (n c : Nat) (hrow : RowCv w g u s A n c)
    (h : ∀ w', RowCv w' g u s A' n' c' → w.grownBy w' (some g) → wpList Try.prog ops Q rest a w') : wpList Try.prog ops Q (o :: rest) a w :=
  wpList_store_cell w hgd hd _ p x ho g 2 hp _ hx rfl _ _ hrow (by simp) strsSize1 h
/-- The same at one operation, of a region whose order is drawn. -/
theorem step_load_cv {K : Act → World → Prop} {E : Prop} (hg : o.guard = none) (x : Operand) (ho : o.op = .load 26 x) (g : Nat) (hx : a.eval x = .pointer (some ⟨g, 0, none⟩)) (u s : Bool) (A : Option Addr) (n c : Nat) (h0 : RowCv w g u s A n c)
    (h : K (a.put o.dst (.agg #[.bool u, .bool s, .slice A n c])) w) : if Region.wanted o (yielded ops a.tmps) = true then Oper.wp Try.prog o a w K Q else E := by
  have hw : Region.wanted o (yielded ops a.tmps) = true := by simp [Region.wanted, hg]
  rw [if_pos hw]
  have hl := load_cv h0
  unfold Oper.wp
  simp only [execOp, ho, hx, Instr.loadAt, Instr.sureAddr, Sem.run_bind, Sem.run_pure, Result.andThen, hl]
  exact h
theorem step_store_cv {K : Act → World → Prop} {E : Prop} (hg : o.guard = none) (hd : o.dst = none) (p x : Operand) (ho : o.op = .store 26 p x) (g : Nat) (hp : a.eval p = .pointer (some ⟨g, 0, none⟩))
    (u' s' : Bool) (A' : Option Addr) (n' c' : Nat) (hx : a.eval x = .agg #[.bool u', .bool s', .slice A' n' c']) (u s : Bool) (A : Option Addr) (n c : Nat) (hrow : RowCv w g u s A n c)
    (h : ∀ w', RowCv w' g u' s' A' n' c' → w.grownBy w' (some g) → K a w') : if Region.wanted o (yielded ops a.tmps) = true then Oper.wp Try.prog o a w K Q else E := by
  have hw : Region.wanted o (yielded ops a.tmps) = true := by simp [Region.wanted, hg]
  rw [if_pos hw]
  have hl := run_storeVar_row (P := Try.prog) w g 26 _ #[.bool u, .bool s, .slice A n c] #[.bool u', .bool s', .slice A' n' c'] hrow cvSize rfl (cv_one _ _ _ _ _)
  have : K (a.put o.dst undef) (w.setRow g #[.bool u', .bool s', .slice A' n' c']) := by
    rw [hd]
    exact h _ (setRow_heap w g #[.bool u, .bool s, .slice A n c] #[.bool u', .bool s', .slice A' n' c'] _ _ hrow) (grown_setRow w g _)
  unfold Oper.wp
  simp only [execOp, ho, hp, hx, Instr.storeAt, Instr.sureAddr, Sem.run_bind, Sem.run_pure, Result.andThen, hl]
  exact this
theorem res_cv {fn : Func} {tmps : Array Value} (p q : Tmp) (hres : fn.results = #[.cell p 26, .tmp q]) (hp : tmps.getD p undef = .pointer (some ⟨b, 0, none⟩))
    (hrow : RowCv w b u s A n c) (v : Value) (hv : tmps.getD q undef = v) : (results fn tmps).run Try.prog w = .ok (.tuple #[.agg #[.bool u, .bool s, .slice A n c], v]) w := by
  rw [results_cell_tmp hres, hp, hv]
  simp [asAddr, Result.andThen, load_cv hrow]
theorem ret_cv {fn : Func} {R : Ending → World → Prop} (p q : Tmp) (hres : fn.results = #[.cell p 26, .tmp q]) (hp : a.tmps.getD p undef = .pointer (some ⟨b, 0, none⟩))
    (hrow : RowCv w b u s A n c) (v : Value) (hv : a.tmps.getD q undef = v) (hd : a.defers = []) (hR : R (.returned (.tuple #[.agg #[.bool u, .bool s, .slice A n c], v])) w) : bodyPost Try.prog fn R .ret a w :=
  bodyPost_ret (v := .tuple #[.agg #[.bool u, .bool s, .slice A n c], v]) (res_cv p q hres hp hrow v hv) hd hR
theorem ret_cv1 {fn : Func} {R : Ending → World → Prop} (p : Tmp) (hres : fn.results = #[.cell p 26]) (hp : a.tmps.getD p undef = .pointer (some ⟨b, 0, none⟩))
    (hrow : RowCv w b u s A n c) (hd : a.defers = []) (hR : R (.returned (.agg #[.bool u, .bool s, .slice A n c])) w) : bodyPost Try.prog fn R .ret a w := by
  refine bodyPost_ret (v := .agg #[.bool u, .bool s, .slice A n c]) ?_ hd hR
  have hp' : a.tmps[p]?.getD undef = .pointer (some ⟨b, 0, none⟩) := by simpa using hp
  simp [results, hres, hp', asAddr, load_cv hrow]
end

end Go.Proofs.Ytgilpheclmmolaa
