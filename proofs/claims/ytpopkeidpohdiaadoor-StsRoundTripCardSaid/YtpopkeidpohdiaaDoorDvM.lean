/-
  Directives in memory: the cells of a directive, its variable as one row, lists of directives.
-/
import Derived.Test.YtpopkeidpohdiaaDoorRows
import Derived.Test.YtpopkeidpohdiaaDoorTyB
import Derived.Test.YtpopkeidpohdiaaDoorDiP
import Derived.Test.YtpopkeidpohdiaaDoorArr
import Derived.Test.YtpopkeidpohdiaaDoorApp
import Derived.Test.YtpopkeidpohdiaaDoorYes
import Derived.Deep.MidRow
import Derived.Laws.ResultCell
import Derived.Laws.AppendOwn
namespace Go.Proofs.YtpopkeidpohdiaaDoor
open Go.RowKit

/-- The cells of a directive. -/
def dc (n v : ByteArray) (h : Bool) : Array Value := #[.string n, .string v, .bool h]
theorem dc_one (n v : ByteArray) (h : Bool) : (dc n v h).all (·.oneCell') = true := by simp [dc, Value.oneCell']
def Dv.cells (d : Dv) : Array Value := dc (bs d.name) (bs d.value) d.has
theorem Dv.cells_eq (d : Dv) : d.cells = #[.string (bs d.name), .string (bs d.value), .bool d.has] := rfl
def dz : Array Value := dc ⟨#[]⟩ ⟨#[]⟩ false
theorem zeroDv (w : World) : (zeroValue 39).run Tryd.prog w = .ok (.agg dz) w := (zero_of_info (P := Tryd.prog) (t := 39) (v := .agg dz) (n := 3) (by kernel_rfl)).1 w
theorem dvUnd : (Tryd.prog.underlying 39).map (fun d => match d with | .struct _ | .array _ _ => true | _ => false) = some true := by kernel_rfl
theorem dvRow : (Tryd.prog.underlying 39).map (·.isRow) = some true := by kernel_rfl
theorem dvSize : (Tryd.prog.info? 39).map (·.size) = some 3 := by kernel_rfl
theorem tyBool : Tryd.prog.underlying 4 = some .bool := by kernel_rfl
theorem tyDvs : Tryd.prog.underlying 32 = some (.slice 39) := by kernel_rfl
theorem infoDv : (Tryd.prog.info? 39).map (fun i => (i.zero, i.size, i.bytes)) = some (some (.agg dz), 3, 40) := by kernel_rfl
theorem strSize1 : (Tryd.prog.info? 9).map (·.size) = some 1 := by kernel_rfl
theorem boolSize1 : (Tryd.prog.info? 4).map (·.size) = some 1 := by kernel_rfl
/-- A directive's variable. -/
def RowDv (w : World) (b : Nat) (n v : ByteArray) (h : Bool) : Prop := Row w b 39 #[.string n, .string v, .bool h]
theorem RowDv.cells {w : World} {b : Nat} {n v : ByteArray} {h : Bool} (hr : RowDv w b n v h) : w.cell? ⟨b, 0, none⟩ = some (.string n) ∧ w.cell? ⟨b, 1, none⟩ = some (.string v) ∧ w.cell? ⟨b, 2, none⟩ = some (.bool h) :=
  ⟨Row.cell hr (k := 0) (by simp), Row.cell hr (k := 1) (by simp), Row.cell hr (k := 2) (by simp)⟩
theorem load_dv {w : World} {b : Nat} {n v : ByteArray} {h : Bool} (hr : RowDv w b n v h) : (loadVar 39 ⟨b, 0, none⟩).run Tryd.prog w = .ok (.agg #[.string n, .string v, .bool h]) w := by
  have hu := dvUnd
  obtain ⟨d, hd⟩ : ∃ d, Tryd.prog.underlying 39 = some d := by
    cases hx : Tryd.prog.underlying 39 with
    | none => rw [hx] at hu; cases hu
    | some d => exact ⟨d, rfl⟩
  rw [hd] at hu
  cases d <;> first
    | exact run_loadVar_row (P := Tryd.prog) w b _ _ _ (0, 0) _ hr hd rfl dvSize
    | cases hu
/-- A load of a directive's variable, guarded or not. -/
theorem wpList_load_dv {ops : Array Oper} {rest : List Oper} {o : Oper} {a : Act} {w : World} {Q : Exit → Act → World → Prop} (hw : Region.wanted o (yielded ops a.tmps) = true) (x : Operand) (ho : o.op = .load 39 x)
    (g : Nat) (hx : a.eval x = .pointer (some ⟨g, 0, none⟩)) (n v : ByteArray) (hb : Bool) (h0 : RowDv w g n v hb)
    (h : wpList Tryd.prog ops Q rest (a.put o.dst (.agg #[.string n, .string v, .bool hb])) w) : wpList Tryd.prog ops Q (o :: rest) a w := by
  have hl := load_dv h0
  unfold wpList
  rw [if_pos hw]
  left
  unfold Oper.wp
  simp only [execOp, ho, hx, Instr.loadAt, Instr.sureAddr, Sem.run_bind, Sem.run_pure, Result.andThen, hl]
  exact h
/-- A load of a directive from the midst of a block. -/
theorem load_dvm {w : World} {b o : Nat} {n v : ByteArray} {h : Bool} (h0 : w.cell? ⟨b, o, none⟩ = some (.string n)) (h1 : w.cell? ⟨b, o + 1, none⟩ = some (.string v)) (h2 : w.cell? ⟨b, o + 2, none⟩ = some (.bool h)) :
    (loadVar 39 ⟨b, o, none⟩).run Tryd.prog w = .ok (.agg #[.string n, .string v, .bool h]) w := by
  have hu := dvRow
  obtain ⟨d, hd⟩ : ∃ d, Tryd.prog.underlying 39 = some d := by
    cases hx : Tryd.prog.underlying 39 with
    | none => rw [hx] at hu; cases hu
    | some d => exact ⟨d, rfl⟩
  rw [hd] at hu
  have hr : w.rangeAt b o [.string n, .string v, .bool h] := by
    intro j u hj
    match j, hj with
    | 0, hj => simp at hj; subst hj; exact h0
    | 1, hj => simp at hj; subst hj; exact h1
    | 2, hj => simp at hj; subst hj; exact h2
    | j + 3, hj => simp at hj
  exact run_loadVar_mid (P := Tryd.prog) w b o 39 [.string n, .string v, .bool h] d hr hd (by simpa using hu) dvSize
theorem wpList_load_dvm {ops : Array Oper} {rest : List Oper} {o : Oper} {a : Act} {w : World} {Q : Exit → Act → World → Prop} (hw : Region.wanted o (yielded ops a.tmps) = true) (x : Operand) (ho : o.op = .load 39 x)
    (b f : Nat) (hx : a.eval x = .pointer (some ⟨b, f, none⟩)) (n v : ByteArray) (hb : Bool) (h0 : w.cell? ⟨b, f, none⟩ = some (.string n)) (h1 : w.cell? ⟨b, f + 1, none⟩ = some (.string v)) (h2 : w.cell? ⟨b, f + 2, none⟩ = some (.bool hb))
    (h : wpList Tryd.prog ops Q rest (a.put o.dst (.agg #[.string n, .string v, .bool hb])) w) : wpList Tryd.prog ops Q (o :: rest) a w := by
  have hl := load_dvm h0 h1 h2
  unfold wpList
  rw [if_pos hw]
  left
  unfold Oper.wp
  simp only [execOp, ho, hx, Instr.loadAt, Instr.sureAddr, Sem.run_bind, Sem.run_pure, Result.andThen, hl]
  exact h
theorem wpList_store_dv {ops : Array Oper} {rest : List Oper} {o : Oper} {a : Act} {w : World} {Q : Exit → Act → World → Prop} (hgd : o.guard = none) (hd : o.dst = none) (p x : Operand) (ho : o.op = .store 39 p x)
    (g : Nat) (hp : a.eval p = .pointer (some ⟨g, 0, none⟩)) (n' v' : ByteArray) (b' : Bool) (hx : a.eval x = .agg #[.string n', .string v', .bool b']) (n v : ByteArray) (hb : Bool) (hrow : RowDv w g n v hb)
    (h : ∀ w', RowDv w' g n' v' b' → w.grownBy w' (some g) → wpList Tryd.prog ops Q rest a w') : wpList Tryd.prog ops Q (o :: rest) a w :=
  wpList_store_arr w hgd hd _ p x ho g hp #[.string n', .string v', .bool b'] hx _ _ hrow dvSize rfl (dc_one _ _ _) h
/-- Stores of the value and of whether there is one. -/
theorem wpList_store_dv1 {ops : Array Oper} {rest : List Oper} {o : Oper} {a : Act} {w : World} {Q : Exit → Act → World → Prop} (hgd : o.guard = none) (hd : o.dst = none) (p x : Operand) (ho : o.op = .store 9 p x)
    (g : Nat) (hp : a.eval p = .pointer (some ⟨g, 1, none⟩)) (v' : ByteArray) (hx : a.eval x = .string v') (n v : ByteArray) (hb : Bool) (hrow : RowDv w g n v hb)
    (h : ∀ w', RowDv w' g n v' hb → w.grownBy w' (some g) → wpList Tryd.prog ops Q rest a w') : wpList Tryd.prog ops Q (o :: rest) a w :=
  wpList_store_cell w hgd hd _ p x ho g 1 hp _ hx rfl _ _ hrow (by simp) strSize1 h
theorem wpList_store_dv2 {ops : Array Oper} {rest : List Oper} {o : Oper} {a : Act} {w : World} {Q : Exit → Act → World → Prop} (hgd : o.guard = none) (hd : o.dst = none) (p x : Operand) (ho : o.op = .store 4 p x)
    (g : Nat) (hp : a.eval p = .pointer (some ⟨g, 2, none⟩)) (b' : Bool) (hx : a.eval x = .bool b') (n v : ByteArray) (hb : Bool) (hrow : RowDv w g n v hb)
    (h : ∀ w', RowDv w' g n v b' → w.grownBy w' (some g) → wpList Tryd.prog ops Q rest a w') : wpList Tryd.prog ops Q (o :: rest) a w :=
  wpList_store_cell w hgd hd _ p x ho g 2 hp _ hx rfl _ _ hrow (by simp) boolSize1 h
theorem ret_dv {fn : Func} {R : Ending → World → Prop} {a : Act} {w : World} (p u : Tmp) (hres : fn.results = #[.cell p 39, .tmp u]) (b : Nat) (hp : a.tmps.getD p undef = .pointer (some ⟨b, 0, none⟩))
    (n x : ByteArray) (hb : Bool) (hrow : RowDv w b n x hb) (v : Value) (hv : a.tmps.getD u undef = v) (hd : a.defers = []) (hR : R (.returned (.tuple #[.agg #[.string n, .string x, .bool hb], v])) w) : bodyPost Tryd.prog fn R .ret a w := by
  refine bodyPost_ret (v := .tuple #[.agg #[.string n, .string x, .bool hb], v]) ?_ hd hR
  rw [results_cell_tmp hres, hp, hv]
  simp [asAddr, Result.andThen, load_dv hrow]
theorem ret_dv3 {fn : Func} {R : Ending → World → Prop} {a : Act} {w : World} (p u u2 : Tmp) (hres : fn.results = #[.cell p 39, .tmp u, .tmp u2]) (b : Nat) (hp : a.tmps.getD p undef = .pointer (some ⟨b, 0, none⟩))
    (n x : ByteArray) (hb : Bool) (hrow : RowDv w b n x hb) (v v2 : Value) (hv : a.tmps.getD u undef = v) (hv2 : a.tmps.getD u2 undef = v2) (hd : a.defers = []) (hR : R (.returned (.tuple #[.agg #[.string n, .string x, .bool hb], v, v2])) w) : bodyPost Tryd.prog fn R .ret a w := by
  refine bodyPost_ret (v := .tuple #[.agg #[.string n, .string x, .bool hb], v, v2]) ?_ hd hR
  have hp' : a.tmps[p]?.getD undef = .pointer (some ⟨b, 0, none⟩) := by simpa using hp
  have hv' : a.tmps[u]?.getD undef = v := by simpa using hv
  have hv2' : a.tmps[u2]?.getD undef = v2 := by simpa using hv2
  simp [results, hres, hp', hv', hv2', asAddr, Result.andThen, load_dv hrow]

/-! ### lists of directives -/
def dvv (l : List Dv) : List Value := l.flatMap fun d => [.string (bs d.name), .string (bs d.value), .bool d.has]
theorem dvv_snoc (l : List Dv) (d : Dv) : dvv l ++ [.string (bs d.name), .string (bs d.value), .bool d.has] = dvv (l ++ [d]) := by simp [dvv]
theorem dvv_length : ∀ l : List Dv, (dvv l).length = l.length * 3
  | [] => rfl
  | d :: l => by
    have := dvv_length l
    simp only [dvv, List.flatMap_cons, List.length_append, List.length_cons, List.length_nil] at this ⊢
    omega
theorem dvv_get : ∀ (l : List Dv) (k : Nat) (h : k < l.length), (dvv l)[k * 3]? = some (.string (bs l[k].name)) ∧ (dvv l)[k * 3 + 1]? = some (.string (bs l[k].value)) ∧ (dvv l)[k * 3 + 2]? = some (.bool l[k].has)
  | [], k, h => absurd h (by simp)
  | d :: l, 0, h => ⟨rfl, rfl, rfl⟩
  | d :: l, k + 1, h => by
    have ih := dvv_get l k (by simpa using h)
    have e : dvv (d :: l) = Value.string (bs d.name) :: .string (bs d.value) :: .bool d.has :: dvv l := rfl
    rw [e, show (k + 1) * 3 = k * 3 + 1 + 1 + 1 by omega, show k * 3 + 1 + 1 + 1 + 1 = k * 3 + 1 + 1 + 1 + 1 from rfl]
    simp only [List.getElem?_cons_succ, List.getElem_cons_succ]
    exact ih
/-- A slice of directives; below block B. -/
def HasDv (w : World) (B : Nat) (A : Option Addr) (n : Nat) (l : List Dv) : Prop :=
  l.length = n ∧ (0 < n → ∃ b off, A = some ⟨b, off, none⟩ ∧ b < B ∧ ∀ k (h : k < l.length), w.cell? ⟨b, off + k * 3, none⟩ = some (.string (bs l[k].name)) ∧ w.cell? ⟨b, off + k * 3 + 1, none⟩ = some (.string (bs l[k].value)) ∧ w.cell? ⟨b, off + k * 3 + 2, none⟩ = some (.bool l[k].has))
section
variable {w w' : World} {B B' n : Nat} {A : Option Addr} {l : List Dv}
theorem HasDv.nil (w : World) (B : Nat) (A : Option Addr) : HasDv w B A 0 [] := ⟨rfl, fun h => absurd h (by omega)⟩
theorem HasDv.keep (h : HasDv w B A n l) (hk : ∀ p : Addr, p.block < B → w'.cell? p = w.cell? p) : HasDv w' B A n l :=
  ⟨h.1, fun hn => by
    obtain ⟨b, off, e, hb, hc⟩ := h.2 hn
    exact ⟨b, off, e, hb, fun j hj => ⟨(hk _ hb).trans (hc j hj).1, (hk _ hb).trans (hc j hj).2.1, (hk _ hb).trans (hc j hj).2.2⟩⟩⟩
theorem HasDv.more (h : HasDv w B A n l) (hB : B ≤ B') : HasDv w B' A n l :=
  ⟨h.1, fun hn => by
    obtain ⟨b, off, e, hb, hc⟩ := h.2 hn
    exact ⟨b, off, e, by omega, hc⟩⟩
theorem HasDv.below (h : HasDv w B A n l) (hb : Below B w w') : HasDv w' B A n l := h.keep fun _ hp => hb.cell hp
theorem HasDv.below' (h : HasDv w B A n l) (hb : Below B' w w') (hB : B ≤ B') : HasDv w' B A n l := h.keep fun _ hp => hb.cell (by omega)
theorem HasDv.at_ (h : HasDv w B A n l) {k : Nat} (hk : k < n) : ∃ b off, A = some ⟨b, off, none⟩ ∧ b < B ∧ w.cell? ⟨b, off + k * 3, none⟩ = some (.string (bs (l[k]'(by rw [h.1]; exact hk)).name)) ∧ w.cell? ⟨b, off + k * 3 + 1, none⟩ = some (.string (bs (l[k]'(by rw [h.1]; exact hk)).value)) ∧ w.cell? ⟨b, off + k * 3 + 2, none⟩ = some (.bool (l[k]'(by rw [h.1]; exact hk)).has) := by
  obtain ⟨b, off, e, hb, hc⟩ := h.2 (by omega)
  exact ⟨b, off, e, hb, hc k _⟩
theorem HasDv.of_own {base : Nat} {v : Value} (h : w.ownsRow base 39 3 v n (dvv l)) : ∃ A c, v = .slice A n c ∧ HasDv w w.heap.size A n l ∧ n ≤ c ∧ (A = none → c = 0) := by
  have hl : l.length = n := by have := h.1; rw [dvv_length] at this; omega
  rcases h.2 with ⟨rfl, rfl⟩ | ⟨g, cap, cur, rfl, hb, hg, hnc, _⟩
  · exact ⟨none, 0, rfl, ⟨hl, fun h => absurd h (by omega)⟩, Nat.le_refl _, fun _ => rfl⟩
  · refine ⟨_, cap, rfl, ⟨hl, fun hn => ?_⟩, hnc, fun e => by cases e⟩
    refine ⟨g, 0, rfl, (Array.getElem?_eq_some_iff.1 hg).1, fun k hk => ?_⟩
    obtain ⟨g0, g1, g2⟩ := dvv_get l k hk
    have key : ∀ j u, (dvv l)[j]? = some u → w.cell? ⟨g, j, none⟩ = some u := by
      intro j u hu
      have := h.cells (g := g) rfl j u hu
      have hadd : (⟨g, 0, none⟩ : Addr).add j = ⟨g, j, none⟩ := by unfold Addr.add; split <;> simp_all
      rwa [hadd] at this
    rw [Nat.zero_add]
    exact ⟨key _ _ g0, key _ _ g1, key _ _ g2⟩
end

/-- append(out, d): behind 'buildSlice'. -/
theorem wpList_app_dv {w0 : World} (wr : World) {ops : Array Oper} {rest : List Oper} {o : Oper} {a : Act} {Q : Exit → Act → World → Prop} (hgd : o.guard = none) (s x : Operand)
    (ho : o.op = .call { callee := .builtin .append, args := #[s, x], argTypes := #[32, 32] })
    (base : Nat) (d : Dv) (v : Value) (n : Nat) (l : List Dv) (hs : a.eval s = v) (hown : wr.ownsRow base 39 3 v n (dvv l)) (hx : a.eval x = .slice (some ⟨wr.heap.size, 0, none⟩) 1 1)
    (h63 : n ≤ 1000000) (hb : Below base w0 wr) (hbase : base ≤ w0.heap.size)
    (h : ∀ v' w', w'.ownsRow base 39 3 v' (n + 1) (dvv (l ++ [d])) → Below base w0 w' → wr.grownBy w' v.ownBlock → wpList Tryd.prog ops Q rest (a.put o.dst v') w') :
    wpList Tryd.prog ops Q (o :: rest) a (wr.alloc (.cells #[.string (bs d.name), .string (bs d.value), .bool d.has] 39)) := by
  obtain ⟨i, hi, hz0, hz1, hz2⟩ := info_parts infoDv
  have hsz := hb.size
  have hbw : base ≤ wr.heap.size := by omega
  refine wpList_append_own (P := Tryd.prog) _ hgd s x 32 ho base 39 i (.agg dz) 3 40 tyDvs hi hz0 hz1 hz2 rfl (by decide) v n (dvv l) hs (hown.alloc _) ⟨wr.heap.size, 0, none⟩ 1 1 [.string (bs d.name), .string (bs d.value), .bool d.has] hx rfl ?_ ?_ (by unfold maxLen; omega) (by omega) (by simp; omega) ?_
  · intro j q hj
    match j, hj with
    | 0, hj => simp at hj; subst hj; simp [Addr.add, World.cell?_alloc_at _ _ _ _ rfl]
    | 1, hj => simp at hj; subst hj; simp [Addr.add, World.cell?_alloc_at _ _ _ _ rfl]
    | 2, hj => simp at hj; subst hj; simp [Addr.add, World.cell?_alloc_at _ _ _ _ rfl]
    | j + 3, hj => simp at hj
  · intro q hq
    simp at hq
    rcases hq with rfl | rfl | rfl <;> rfl
  · intro v' w' hown' hgrow _
    rw [dvv_snoc] at hown'
    exact h v' w' hown' (owns_below (hown.alloc _) (hb.alloc hbw _) (by simp; omega) hgrow) (grownBy_trans (World.grownBy_alloc wr _ _) hgrow)

/-- A list of directives and a number, as a function returns them. -/
def DvsPost (l : List Dv) (r : Int) (w : World) (e : Ending) (w' : World) : Prop :=
  ∃ A c, e = .returned (.tuple #[.slice A l.length c, .int .i64 r]) ∧ l.length ≤ c ∧ (A = none → c = 0) ∧ HasDv w' w'.heap.size A l.length l ∧ Below w.heap.size w w'
theorem dvs_nil {w w' : World} {p : List Dv × Int} {r : Int} (h : p = ([], r)) (hb : Below w.heap.size w w') : DvsPost p.1 p.2 w (.returned (.tuple #[.slice none 0 0, .int .i64 r])) w' := by
  rw [h]
  exact ⟨none, 0, rfl, Nat.le_refl _, fun _ => rfl, HasDv.nil _ _ _, hb⟩
theorem dvs_own {w w' : World} {p : List Dv × Int} {l : List Dv} {base n : Nat} {v : Value} (h : p = (l, 0)) (hown : w'.ownsRow base 39 3 v n (dvv l)) (hb : Below w.heap.size w w') : DvsPost p.1 p.2 w (.returned (.tuple #[v, .int .i64 0])) w' := by
  rw [h]
  obtain ⟨A, c, rfl, h1, h2, h3⟩ := HasDv.of_own hown
  obtain rfl := h1.1
  exact ⟨A, c, rfl, h2, h3, h1, hb⟩

end Go.Proofs.YtpopkeidpohdiaaDoor
