/-
append of a slice to a row that the call itself has made; the slices of bytes that came in. No program.
Types of bytes and strings, and string(b) of a slice of bytes; no function of the program.
Types of lists of strings; no function of the program.
Lists of strings in memory: no function of the program.
Contracts of hex, double and hexText of the reference of layer 11 (written by tools/gen-I61.py).
Steps of a region that draws its order, whose operations are guarded: the guard decided by computation. No program.
Contract of FromInt of the reference of layer 1.
Contract of Split of the reference of layer 1.
Contracts of decimal and Parse of the reference of layer 10.
Contract of groups of the reference of layer 11 (written by tools/gen-I62.py).
Arrays by value: box, alloc, load and store of a whole array, store of one element. No program.
Arrays of eight groups in memory: no function of the program.
Hosts in memory: the value of a host, its variable as one row; the program's constructors.
Contract of Parse of the reference of layer 11.
Digits laid in front of a string: no function of the program.
Contracts of hexText and Format of the reference of layer 11 (written by tools/gen-I64.py).
What every walk of a statement ends in. No program.
The powers of ten that Go's own library reads lie in the world; what is made beside them leaves them there.
The tables that Go's own library reads to append a number, to the base 10 or 16, lie in the world; what is made beside them leaves them there.
What is asked of package ipv6's functions, in plain words; equality of arrays.
-/
import Derived.Test.YtdfacgncphmcoaaGreatDoorC00
import Derived.Laws.AppendOwnNone
import Derived.OpenShut
import Derived.Deep.WholeRow
import Derived.Test.YtdfacgncphmcoaaGreatDoorRows
import Derived.Test.YtdfacgncphmcoaaGreatDoorC01
import Derived.Test.YtdfacgncphmcoaaGreatDoorC03
import Derived.BigQuiet
import Derived.StillTailTactics
import Derived.Test.YtdfacgncphmcoaaGreatDoorC02
import Derived.Deep.RegionWith
import Derived.Lib.AppendStr
import Derived.Laws.ResultCell
import Derived.Laws.Rows
import Derived.Test.YtdfacgncphmcoaaGreatDoorC04
import Derived.Below
import Derived.Lib.LaidTab
import Derived.Lib.ItoaNum
import Derived.ChangeKeysEq
import Derived.Deep.Cut
namespace Go.Proofs.YtdfacgncphmcoaaGreatDoor
section
open Go.RowKit
/-- append(v, x...): v owns its row, x reads as a list. -/
theorem wpList_app_has {P : Program} {w0 : World} (w : World) {ops : Array Oper} {rest : List Oper} {o : Oper} {a : Act} {Q : Exit → Act → World → Prop} (hgd : o.guard = none) (s x : Operand) (t : TypeId)
    (ho : o.op = .call { callee := .builtin .append, args := #[s, x], argTypes := #[t, t] })
    (base : Nat) (e : TypeId) (i : TypeInfo) (z : Value) (bytes : Nat) (ht : P.underlying t = some (.slice e)) (hi : P.info? e = some i) (hz : i.zero = some z)
    (hsize : i.size = 1) (hby : i.bytes = bytes) (hzs : z.cells.size = 1)
    (v : Value) (n : Nat) (xs : List Value) (hs : a.eval s = v) (hown : w.ownsRow base e 1 v n xs)
    (A : Option Addr) (m c B : Nat) (news : List Value) (hx : a.eval x = .slice A m c) (hA : A = none → c = 0) (hhas : Has w B A m news) (h1 : ∀ u ∈ news, u.oneCell' = true)
    (h63 : n + m ≤ maxLen) (hbytes : (n + m) * bytes ≤ 140737488355328) (hb : Below base w0 w) (hbase : base ≤ w0.heap.size)
    (h : ∀ v' w', w'.ownsRow base e 1 v' (n + m) (xs ++ news) → Below base w0 w' → w.grownBy w' v.ownBlock → wpList P ops Q rest (a.put o.dst v') w') : wpList P ops Q (o :: rest) a w := by
  have hbw : base ≤ w.heap.size := by have := hb.size; omega
  match A, hx, hA, hhas with
  | none, hx, hA, hhas =>
    have hm : m = 0 := by
      by_cases h0 : 0 < m
      · obtain ⟨b, off, e, _⟩ := hhas.2 h0
        cases e
      · omega
    subst hm
    obtain rfl := hA rfl
    have hn : news = [] := List.eq_nil_of_length_eq_zero hhas.1
    subst hn
    refine wpList_append_own_none hgd s x t ho base e i 1 ht hi v n xs hs hown hx ?_
    exact h v w (by simpa using hown) hb ⟨rfl, rfl, rfl, Nat.le_refl _, fun _ _ _ => rfl⟩
  | some ad, hx, hA, hhas =>
    refine wpList_append_own (w := w) hgd s x t ho base e i z 1 bytes ht hi hz hsize hby hzs (by decide) v n xs hs hown ad m c news hx (by rw [hhas.1, Nat.mul_one]) ?_ h1 h63 hbytes hbw ?_
    · intro j u hj
      have hjl : j < news.length := (List.getElem?_eq_some_iff.1 hj).1
      obtain ⟨b, off, e, hb, hc⟩ := hhas.2 (by have := hhas.1; omega)
      injection e with e
      subst e
      have hadd : (⟨b, off, none⟩ : Addr).add j = ⟨b, off + j, none⟩ := by unfold Addr.add; split <;> simp_all
      rw [hadd, hc j hjl, ← hj, List.getElem?_eq_getElem hjl]
    · intro v' w' hown' hgrow _
      exact h v' w' hown' (owns_below hown hb hbw hgrow) hgrow
theorem of_own_none {w : World} {base n c : Nat} {e : TypeId} {A : Option Addr} {xs : List Value} (h : w.ownsRow base e 1 (.slice A n c) n xs) : A = none → c = 0 := by
  rintro rfl
  rcases h.2 with ⟨e, _⟩ | ⟨g, cap, cur, e, _⟩
  · injection e
  · injection e with e _ _; cases e
/-- What a call leaves above the world leaves a row as it was. -/
theorem own_below {w w' : World} {base e size n : Nat} {v : Value} {xs : List Value} (h : w.ownsRow base e size v n xs) (hb : Below w.heap.size w w') : w'.ownsRow base e size v n xs :=
  ⟨h.1, h.2.elim Or.inl fun ⟨g, cap, cur, hv, hg, hr, r⟩ => Or.inr ⟨g, cap, cur, hv, hg, (hb.block g (Array.getElem?_eq_some_iff.1 hr).1).trans hr, r⟩⟩
/-- A slice of bytes that came in. -/
def Arg8 (w : World) (A : Option Addr) (len cap : Nat) (l : List UInt8) : Prop :=
  Has w w.heap.size A len (l.map bv) ∧ len ≤ cap ∧ cap ≤ maxLen ∧ (A = none → cap = 0)
theorem Arg8.len {w : World} {A : Option Addr} {len cap : Nat} {l : List UInt8} (h : Arg8 w A len cap l) : l.length = len := by simpa using h.1.1
/-- A slice that came in is the first part of itself. -/
theorem Has.take {w : World} {B n : Nat} {A : Option Addr} {xs : List Value} (h : Has w B A n xs) (m : Nat) (hm : m ≤ n) : Has w B A m (xs.take m) :=
  ⟨by have := h.1; simp; omega, fun h0 => by
    obtain ⟨b, off, e, hb, hc⟩ := h.2 (by omega)
    refine ⟨b, off, e, hb, fun j hj => ?_⟩
    rw [hc j (by simp at hj; omega)]
    simp⟩
theorem Has.laid (w : World) (t : TypeId) (c : Array Value) (fr : Nat × Nat) (n : Nat) (xs : List Value) (hc : c = xs.toArray) (hn : xs.length = n) : Has (w.alloc (.cells c t fr)) (w.heap.size + 1) (some ⟨w.heap.size, 0, none⟩) n xs :=
  ⟨hn, fun _ => ⟨w.heap.size, 0, rfl, by omega, fun j hj => by
    subst hc
    rw [cell_of_row _ w.heap.size (0 + j) xs.toArray t fr (heap_alloc_last w _)]
    simp⟩⟩
theorem one_bytes (l : List UInt8) : ∀ u ∈ l.map bv, u.oneCell' = true := by
  intro u hu
  obtain ⟨c, _, rfl⟩ := List.mem_map.1 hu
  rfl
end

section
open Go.RowKit
theorem tyBs : Tryz.prog.underlying 40 = some (.slice 5) := by kernel_rfl
theorem tyU8 : Tryz.prog.underlying 5 = some (.int .u8) := by kernel_rfl
theorem tyStr : Tryz.prog.underlying 9 = some .string := by kernel_rfl
theorem infoU8 : (Tryz.prog.info? 5).map (fun i => (i.zero, i.size, i.bytes)) = some (some (.int .u8 0), 1, 1) := by kernel_rfl
set_option maxRecDepth 20000 in
/-- string(b). -/
theorem str_has (w : World) (A : Option Addr) (n c B : Nat) (l : List UInt8) (h : Has w B A n (l.map bv)) :
    (convert 40 9 (.slice A n c)).run Tryz.prog w = .ok (.string (bs l)) w := by
  have hl : l.length = n := by simpa using h.1
  match A, h with
  | none, h =>
    have hn : n = 0 := by
      by_cases h0 : 0 < n
      · obtain ⟨b, off, e, _⟩ := h.2 h0
        cases e
      · omega
    subst hn
    have : l = [] := List.eq_nil_of_length_eq_zero hl
    subst this
    exact run_convert_bytes_nil w 40 5 tyBs tyU8 0 c 9 tyStr
  | some ad, h =>
    rcases Nat.eq_zero_or_pos n with h0 | h0
    · subst h0
      have : l = [] := List.eq_nil_of_length_eq_zero hl
      subst this
      have hl0 : (loadCells ad 0).run Tryz.prog w = .ok (([] : List Int).map (Value.int .u8)).toArray w := run_loadCells_list (P := Tryz.prog) w ad [] (fun j v hj => by simp at hj)
      rw [run_convert_bytes_string w 40 9 5 _ 0 c tyBs tyU8 tyStr, run_bytesToString w ad 0 c [] hl0]
      rfl
    · obtain ⟨b, off, e, _, hc⟩ := h.2 h0
      injection e with e
      subst e
      rw [run_convert_bytes_arg w 40 5 tyBs tyU8 b off n c (l.map fun c => (c.toNat : Int)) (by simpa using hl) (fun j hj => by
        rw [hc j (by simp; omega)]
        have hjl : j < l.length := by omega
        simp [List.getD, List.getElem?_eq_getElem hjl, bv]) 9 tyStr, strOfNums_bytes]
/-- string(out) of a slice of bytes that the call itself has made. -/
theorem str_owned (w : World) (base n : Nat) (v : Value) (l : List UInt8) (h : w.ownsRow base 5 1 v n (l.map bv)) :
    (convert 40 9 v).run Tryz.prog w = .ok (.string (bs l)) w := by
  obtain ⟨A, c, rfl, hh, _⟩ := Has.of_own h
  exact str_has w A n c _ l hh
end

section
open Go.RowKit
theorem tyStrs : Tryz.prog.underlying 56 = some (.slice 9) := by kernel_rfl
theorem infoStr : (Tryz.prog.info? 9).map (fun i => (i.zero, i.size, i.bytes)) = some (some (.string ByteArray.empty), 1, 16) := by kernel_rfl
def wv (acc : List (List UInt8)) : List Value := acc.map fun l => .string (bs l)
theorem wv_snoc (acc : List (List UInt8)) (l : List UInt8) : wv acc ++ [.string (bs l)] = wv (acc ++ [l]) := by simp [wv]
end

section
open Go.RowKit
end

section
open Go.RowKit
def hV (l : List UInt8) : Int := ((hexL l).getD 0 : Nat)
def hK (l : List UInt8) : Bool := (hexL l).isSome
theorem hexval_take (t : ByteArray) (k : Nat) (h : k < t.size) : valB 16 0 ((ls t).take (k + 1)) = valB 16 0 ((ls t).take k) * 16 + digV t[k] := by
  rw [take_ls_succ t k h, valB_append]; rfl
theorem hexval_lt (l : List UInt8) : ∀ a k, a < 16 ^ k → l.all (fun c => decide (digV c < 16)) = true → valB 16 a l < 16 ^ (k + l.length) := by
  induction l with
  | nil => intro a k h _; exact h
  | cons c r ih =>
    intro a k h hall
    simp only [List.all_cons, Bool.and_eq_true, decide_eq_true_eq] at hall
    rw [valB]
    have := ih (a * 16 + digV c) (k + 1) (by rw [Nat.pow_succ]; omega) hall.2
    rw [List.length_cons, show k + (r.length + 1) = k + 1 + r.length by omega]
    exact this
end

section
open Go.RowKit
end

section
open Go.RowKit
/-- string(b) of one byte. -/
theorem str_one (w : World) (b : Nat) (y : Int) (c : UInt8) (hy : y = (c.toNat : Int)) (h : w.cell? ⟨b, 0, none⟩ = some (.int .u8 y)) :
    (convert 40 9 (.slice (some ⟨b, 0, none⟩) 1 1)).run Tryz.prog w = .ok (.string (bs [c])) w := by
  have e := run_convert_bytes_back (P := Tryz.prog) w 40 9 5 ⟨b, 0, none⟩ 1 [c] tyBs tyU8 tyStr (fun j hj => by
    match j, hj with
    | 0, _ => rw [show (⟨b, 0, none⟩ : Addr).add 0 = ⟨b, 0, none⟩ from rfl, h, hy]; rfl)
  exact e
end

section
open Go.RowKit
end

section
open Go.RowKit
/-- The address, and whether there is one. -/
def aV (o : Option Nat) : Int := (o.getD 0 : Nat)
def aK (o : Option Nat) : Bool := o.isSome
end

section
open Go.RowKit
theorem tyU16s : Tryz.prog.underlying 99 = some (.slice 24) := by kernel_rfl
theorem tyU16 : Tryz.prog.underlying 24 = some (.int .u16) := by kernel_rfl
theorem infoU16 : (Tryz.prog.info? 24).map (fun i => (i.zero, i.size, i.bytes)) = some (some (.int .u16 0), 1, 2) := by kernel_rfl
theorem sizeU16 : (Tryz.prog.info? 24).map (·.size) = some 1 := by kernel_rfl
/-- Groups as values. -/
def uv (g : List Nat) : List Value := g.map fun (x : Nat) => .int .u16 (x : Int)
theorem uv_length (g : List Nat) : (uv g).length = g.length := by simp [uv]
theorem uv_one (g : List Nat) : ∀ v ∈ uv g, v.oneCell' = true := by
  intro v hv
  obtain ⟨x, _, rfl⟩ := List.mem_map.1 hv
  rfl
theorem uv_cell {w : World} {B n : Nat} {A : Option Addr} {g : List Nat} (h : Has w B A n (uv g)) (k : Nat) (hk : k < n) : ∃ b off, A = some ⟨b, off, none⟩ ∧ w.cell? ⟨b, off + k, none⟩ = some (.int .u16 ((g.getD k 0 : Nat) : Int)) := by
  have hl : (uv g).length = n := h.1
  rw [uv_length] at hl
  obtain ⟨b, off, e, _, hc⟩ := h.at_ hk
  refine ⟨b, off, e, ?_⟩
  rw [hc, List.getD_eq_getElem?_getD, List.getElem?_eq_getElem (by omega), Option.getD_some]
  simp [uv]
/-- The groups of a string, as the reference answers them. -/
def GrpPost (o : Option (List Nat)) (w : World) (e : Ending) (w' : World) : Prop :=
  ∃ v, e = .returned (.tuple #[v, .bool o.isSome]) ∧ w'.ownsRow w.heap.size 24 1 v (o.getD []).length (uv (o.getD [])) ∧ Below w.heap.size w w'
theorem GrpPost.no {o : Option (List Nat)} {w w' : World} (h : o = none) (hb : Below w.heap.size w w') : GrpPost o w (.returned (.tuple #[.slice none 0 0, .bool false])) w' := by
  subst h
  exact ⟨_, rfl, World.ownsRow_nil _ _ _ _, hb⟩
end

section
open Go.RowKit
/-- The row of block g. -/
def Row (w : World) (g : Nat) (t : TypeId) (c : Array Value) : Prop := w.heap[g]? = some (.cells c t (0, 0))
section
variable {w w' : World} {g g' B : Nat} {t : TypeId} {c : Array Value}
theorem Row.lt (h : Row w g t c) : g < w.heap.size := (Array.getElem?_eq_some_iff.1 h).1
theorem Row.below (h : Row w g t c) (hb : Below B w w') (hg : g < B) : Row w' g t c := (hb.block g hg).trans h
theorem Row.grown (h : Row w g t c) (hg : w.grownBy w' (some g')) (hne : g ≠ g') : Row w' g t c := (hg.block g h.lt (fun e => by injection e with e; exact hne e)).trans h
theorem Row.grown0 (h : Row w g t c) (hg : w.grownBy w' none) : Row w' g t c := (hg.block g h.lt (fun e => by cases e)).trans h
theorem Row.cell (h : Row w g t c) {k : Nat} (hk : k < c.size) : w.cell? ⟨g, k, none⟩ = some c[k] := by
  rw [cell_of_row w g k c t (0, 0) h, Array.getElem?_eq_getElem hk]
theorem row_new (w : World) (c : Array Value) (t : TypeId) : Row (w.alloc (.cells c t)) w.heap.size t c := heap_alloc_last w _
theorem below_row {w0 : World} (hb : Below B w0 w) (hg : w.grownBy w' (some g)) (hB : B ≤ w0.heap.size) (hr : B ≤ g) : Below B w0 w' :=
  hb.grown hg (by have := hb.size; omega) (fun k e => by injection e with e; omega)
theorem below_row0 {w0 : World} (hb : Below B w0 w) (hg : w.grownBy w' none) (hB : B ≤ w0.heap.size) : Below B w0 w' :=
  hb.grown hg (by have := hb.size; omega) (fun k e => by cases e)
theorem grown_setRow (w : World) (g : Nat) (c : Array Value) : w.grownBy (w.setRow g c) (some g) :=
  ⟨rfl, rfl, rfl, by rw [setRow_size]; exact Nat.le_refl _, fun i _ hne => setRow_other w g i c (fun e => hne (by rw [e]))⟩
end
variable {P : Program} (w : World) {ops : Array Oper} {rest : List Oper} {o : Oper} {a : Act} {Q : Exit → Act → World → Prop}
theorem wpList_box_arr (hg : o.guard = none) (d : Tmp) (_ : o.dst = some d) (t : TypeId) (x : Operand) (hop : o.op = .box t x) (v : Value) (c : Array Value) (hv : a.eval x = v) (hc : v.cells = c)
    (h : ∀ w' g, w.heap.size ≤ g → g < w'.heap.size → Row w' g t c → w.grownBy w' none → wpList P ops Q rest (a.put o.dst (.pointer (some ⟨g, 0, none⟩))) w') : wpList P ops Q (o :: rest) a w := by
  refine wpList_plain hg fun K hK => ?_
  subst hc
  have := h (w.alloc (.cells v.cells t)) w.heap.size (Nat.le_refl _) (by simp) (row_new w _ _) (World.grownBy_alloc w _ _)
  unfold Oper.wp
  simp [execOp, hop, hv, Instr.box, newVar, newRow, Result.andThen]
  exact hK _ _ this
theorem wpList_alloc_arr (hg : o.guard = none) (d : Tmp) (_ : o.dst = some d) (t : TypeId) (hop : o.op = .alloc t) (z : Array Value) (hz : ∀ w, (zeroValue t).run P w = .ok (.agg z) w)
    (h : ∀ w' g, w.heap.size ≤ g → g < w'.heap.size → Row w' g t z → w.grownBy w' none → wpList P ops Q rest (a.put o.dst (.pointer (some ⟨g, 0, none⟩))) w') : wpList P ops Q (o :: rest) a w := by
  refine wpList_plain hg fun K hK => ?_
  have := h (w.alloc (.cells z t)) w.heap.size (Nat.le_refl _) (by simp) (row_new w _ _) (World.grownBy_alloc w _ _)
  unfold Oper.wp
  simp [execOp, hop, Instr.alloc, hz, newVar, newRow, Result.andThen, Value.cells]
  exact hK _ _ this
theorem wpList_load_arr (hg : o.guard = none) (t : TypeId) (p : Operand) (hop : o.op = .load t p) (g : Nat) (hp : a.eval p = .pointer (some ⟨g, 0, none⟩)) (t' : TypeId) (c : Array Value) (hrow : Row w g t' c)
    (n : Nat) (e : TypeId) (hu : P.underlying t = some (.array n e)) (hi : (P.info? t).map (·.size) = some c.size)
    (h : wpList P ops Q rest (a.put o.dst (.agg c)) w) : wpList P ops Q (o :: rest) a w := by
  refine wpList_plain hg fun K hK => ?_
  have hl := run_loadVar_row (P := P) w g t' t c (0, 0) _ hrow hu rfl hi
  unfold Oper.wp
  simp only [execOp, hop, hp, Instr.loadAt, Instr.sureAddr, Sem.run_bind, Sem.run_pure, Result.andThen, hl]
  exact hK _ _ h
theorem wpList_store_arr (hg : o.guard = none) (hd : o.dst = none) (t : TypeId) (p x : Operand) (hop : o.op = .store t p x) (g : Nat) (hp : a.eval p = .pointer (some ⟨g, 0, none⟩)) (c' : Array Value) (hx : a.eval x = .agg c')
    (t' : TypeId) (c : Array Value) (hrow : Row w g t' c) (hi : (P.info? t).map (·.size) = some c'.size) (ho : c.size = c'.size) (h1 : c'.all (·.oneCell') = true)
    (h : ∀ w', Row w' g t' c' → w.grownBy w' (some g) → wpList P ops Q rest a w') : wpList P ops Q (o :: rest) a w := by
  refine wpList_plain hg fun K hK => ?_
  have hl := run_storeVar_row (P := P) w g t' t c c' hrow hi ho h1
  have : wpList P ops Q rest (a.put o.dst undef) (w.setRow g c') := by
    rw [hd]
    exact h (w.setRow g c') (setRow_heap w g c c' t' _ hrow) (grown_setRow w g c')
  unfold Oper.wp
  simp only [execOp, hop, hp, hx, Instr.storeAt, Instr.sureAddr, Sem.run_bind, Sem.run_pure, Result.andThen, hl]
  exact hK _ _ this
theorem wpList_store_cell (hg : o.guard = none) (hd : o.dst = none) (t : TypeId) (p x : Operand) (hop : o.op = .store t p x) (g k : Nat) (hp : a.eval p = .pointer (some ⟨g, k, none⟩)) (v : Value) (hx : a.eval x = v) (hv : v.oneCell' = true)
    (t' : TypeId) (c : Array Value) (hrow : Row w g t' c) (hk : k < c.size) (hi : (P.info? t).map (·.size) = some 1)
    (h : ∀ w', Row w' g t' (c.setIfInBounds k v) → w.grownBy w' (some g) → wpList P ops Q rest a w') : wpList P ops Q (o :: rest) a w := by
  refine wpList_plain hg fun K hK => ?_
  have hcell := hrow.cell hk
  have hfro : w.frozen? ⟨g, k, none⟩ = false := by
    have := hrow
    unfold Row at this
    simp [World.frozen?, this]
  have hst : (store (⟨g, k, none⟩ : Addr) v).run P w = .ok () (w.setRow g (c.setIfInBounds k v)) := by
    rw [run_store P w _ v _ hv, hcell]
    simp [hfro, setCell_eq_setRow w g k c t' (0, 0) v hrow]
  have hc : v.cells = #[v] := by cases v <;> first | rfl | cases hv
  have hl : (storeVar t ⟨g, k, none⟩ v).run P w = .ok () (w.setRow g (c.setIfInBounds k v)) := by
    cases hq : P.info? t with
    | none => simp [hq] at hi
    | some i =>
      have hs : i.size = 1 := by simp [hq] at hi; omega
      have hadd : (⟨g, k, none⟩ : Addr).add 0 = ⟨g, k, none⟩ := by unfold Addr.add; simp
      simp [storeVar, sizeOf, typeInfo, hq, hc, hs, storeCells, hadd, hst]
  have : wpList P ops Q rest (a.put o.dst undef) (w.setRow g (c.setIfInBounds k v)) := by
    rw [hd]
    exact h (w.setRow g (c.setIfInBounds k v)) (setRow_heap w g c _ t' _ hrow) (grown_setRow w g _)
  unfold Oper.wp
  simp only [execOp, hop, hp, hx, Instr.storeAt, Instr.sureAddr, Sem.run_bind, Sem.run_pure, Result.andThen, hl]
  exact hK _ _ this
/-- 'x >> k' of 32 bits, k a variable. -/
theorem wpList_shr32 (hg : o.guard = none) (t u : TypeId) (x y : Operand) (hop : o.op = .binOp .shr t x y u) (_hu : P.underlying t = some (.int .u32)) (n : Int) (k : Nat) (hk : k ≤ 32) (hx : a.eval x = .int .u32 n) (hy : a.eval y = .int .i64 (k : Int))
    (r : Int) (hr : n / 2 ^ k = r) (h : wpList P ops Q rest (a.put o.dst (.int .u32 r)) w) : wpList P ops Q (o :: rest) a w := by
  refine wpList_plain hg fun K hK => ?_
  subst hr
  have e : Int.fdiv n (2 ^ min ((k : Int)).toNat IntKind.u32.bits) = n / 2 ^ k := by
    have : min ((k : Int).toNat) IntKind.u32.bits = k := by simp [IntKind.bits]; omega
    rw [this, Int.fdiv_eq_ediv_of_nonneg _ (Int.pow_nonneg (by decide))]
  rw [← e] at h
  unfold Oper.wp
  simp [execOp, hop, hx, hy, Result.andThen]
  exact hK _ _ h
/-- 'x << k', k a variable below the size. -/
theorem wpList_shl (hg : o.guard = none) (t u : TypeId) (x y : Operand) (hop : o.op = .binOp .shl t x y u) (q : IntKind) (n : Int) (k : Nat) (hk : k ≤ q.bits) (hx : a.eval x = .int q n) (hy : a.eval y = .int .i64 (k : Int))
    (r : Int) (hr : q.wrap (n * 2 ^ k) = r) (h : wpList P ops Q rest (a.put o.dst (.int q r)) w) : wpList P ops Q (o :: rest) a w := by
  refine wpList_plain hg fun K hK => ?_
  have e : q.wrap (n * 2 ^ min ((k : Int)).toNat q.bits) = r := by
    have : min ((k : Int).toNat) q.bits = k := by simp; omega
    rw [this, hr]
  rw [← e] at h
  unfold Oper.wp
  simp [execOp, hop, hx, hy, Result.andThen]
  exact hK _ _ h
/-- A result that lies in a variable of an array's type. -/
theorem ret_cell_arr {fn : Func} {R : Ending → World → Prop} {a : Act} {w : World} (p : Tmp) (t : TypeId) (hres : fn.results = #[.cell p t]) (g : Nat) (hp : a.tmps.getD p undef = .pointer (some ⟨g, 0, none⟩))
    (t' : TypeId) (c : Array Value) (hrow : Row w g t' c) (n : Nat) (e : TypeId) (hu : P.underlying t = some (.array n e)) (hi : (P.info? t).map (·.size) = some c.size) (hd : a.defers = [])
    (hR : R (.returned (.agg c)) w) : bodyPost P fn R .ret a w := by
  refine bodyPost_ret (v := .agg c) ?_ hd hR
  have hl := run_loadVar_row (P := P) w g t' t c (0, 0) _ hrow hu rfl hi
  have hp' : a.tmps[p]?.getD undef = .pointer (some ⟨g, 0, none⟩) := by simpa using hp
  simp only [results, hres]
  simp [asAddr, hp', hl]
end

section
open Go.RowKit
/-- Eight groups as a value's cells. -/
def av (C : List Nat) : Array Value := (uv C).toArray
theorem av_size (C : List Nat) : (av C).size = C.length := by simp [av, uv]
theorem av_set (C : List Nat) (k : Nat) (x : Nat) : (av C).setIfInBounds k (.int .u16 (x : Int)) = av (C.set k x) := by
  apply Array.ext'
  rw [Array.toList_setIfInBounds]
  simp [av, uv, List.map_set]
theorem av_one (C : List Nat) : (av C).all (·.oneCell') = true := by
  rw [Array.all_eq_true_iff_forall_mem]
  intro v hv
  have : v ∈ uv C := by simpa [av] using hv
  exact uv_one C v this
theorem av_get (C : List Nat) (k : Nat) (h : k < C.length) : (av C)[k]? = some (.int .u16 ((C.getD k 0 : Nat) : Int)) := by
  simp [av, uv, List.getD_eq_getElem?_getD, List.getElem?_eq_getElem h]
theorem tyA8 : Tryz.prog.underlying 25 = some (.array 8 24) := by kernel_rfl
theorem infoA8 : (Tryz.prog.info? 25).map (fun i => (i.zero, i.size)) = some (some (.agg (av (zerosN 8))), 8) := by kernel_rfl
theorem sizeA8 : (Tryz.prog.info? 25).map (·.size) = some 8 := by kernel_rfl
theorem sizeA (C : List Nat) (h : C.length = 8) : (Tryz.prog.info? 25).map (·.size) = some (av C).size := by rw [av_size, h]; exact sizeA8
theorem zeroA8 : ∀ w, (zeroValue 25).run Tryz.prog w = .ok (.agg (av (zerosN 8))) w := by
  intro w
  cases hi : Tryz.prog.info? 25 with
  | none => have := infoA8; rw [hi] at this; cases this
  | some i =>
    have := infoA8
    rw [hi] at this
    simp only [Option.map_some, Option.some.injEq, Prod.mk.injEq] at this
    simp [zeroValue, typeInfo, hi, this.1]
/-- An array's variable. -/
def RowA (w : World) (g : Nat) (C : List Nat) : Prop := Row w g 25 (av C)
theorem RowA.cell {w : World} {g : Nat} {C : List Nat} (h : RowA w g C) {k : Nat} (hk : k < C.length) : w.cell? ⟨g, k, none⟩ = some (.int .u16 ((C.getD k 0 : Nat) : Int)) := by
  rw [cell_of_row w g k _ _ (0, 0) h, av_get C k hk]
theorem ret_a8 {fn : Func} {R : Ending → World → Prop} {a : Act} {w : World} (p u : Tmp) (hres : fn.results = #[.cell p 25, .tmp u]) (b : Nat) (hp : a.tmps.getD p undef = .pointer (some ⟨b, 0, none⟩))
    (C : List Nat) (hrow : RowA w b C) (hc : C.length = 8) (v : Value) (hv : a.tmps.getD u undef = v) (hd : a.defers = []) (hR : R (.returned (.tuple #[.agg (av C), v])) w) : bodyPost Tryz.prog fn R .ret a w := by
  refine bodyPost_ret (v := .tuple #[.agg (av C), v]) ?_ hd hR
  have hl := run_loadVar_row (P := Tryz.prog) w b _ _ (av C) (0, 0) _ hrow tyA8 rfl (sizeA C hc)
  rw [results_cell_tmp hres, hp, hv]
  simp [asAddr, Result.andThen, hl]
end

section
open Go.RowKit
/-- The cells of a host. -/
def hc (k : Int) (n : ByteArray) (v : Int) (g : List Nat) : Array Value :=
  #[.int .i64 k, .string n, .int .u32 v, .int .u16 ((g.getD 0 0 : Nat) : Int), .int .u16 ((g.getD 1 0 : Nat) : Int), .int .u16 ((g.getD 2 0 : Nat) : Int), .int .u16 ((g.getD 3 0 : Nat) : Int),
    .int .u16 ((g.getD 4 0 : Nat) : Int), .int .u16 ((g.getD 5 0 : Nat) : Int), .int .u16 ((g.getD 6 0 : Nat) : Int), .int .u16 ((g.getD 7 0 : Nat) : Int)]
theorem hc_one (k : Int) (n : ByteArray) (v : Int) (g : List Nat) : (hc k n v g).all (·.oneCell') = true := by
  simp [hc, Value.oneCell']
def Hv.cells (h : Hv) : Array Value := hc h.kind (bs h.name) (h.v4 : Nat) h.v6
def Hv.val (h : Hv) : Value := .agg h.cells
theorem hostUnd : (Tryz.prog.underlying 27).map (fun d => match d with | .struct _ | .array _ _ => true | _ => false) = some true := by kernel_rfl
theorem hostSize : (Tryz.prog.info? 27).map (·.size) = some 11 := by kernel_rfl
/-- A host's variable. -/
def RowH (w : World) (b : Nat) (c : Array Value) : Prop := Row w b 27 c
theorem load_host {w : World} {b : Nat} {c : Array Value} (h : RowH w b c) (hc : c.size = 11) : (loadVar 27 ⟨b, 0, none⟩).run Tryz.prog w = .ok (.agg c) w := by
  have hu := hostUnd
  obtain ⟨d, hd⟩ : ∃ d, Tryz.prog.underlying 27 = some d := by
    cases hx : Tryz.prog.underlying 27 with
    | none => rw [hx] at hu; cases hu
    | some d => exact ⟨d, rfl⟩
  rw [hd] at hu
  cases d <;> first
    | exact run_loadVar_row (P := Tryz.prog) w b _ _ c (0, 0) _ h hd rfl (by rw [hc]; exact hostSize)
    | cases hu
theorem wpList_load_host {ops : Array Oper} {rest : List Oper} {o : Oper} {a : Act} {w : World} {Q : Exit → Act → World → Prop} (hgd : o.guard = none) (x : Operand) (ho : o.op = .load 27 x)
    (g : Nat) (hx : a.eval x = .pointer (some ⟨g, 0, none⟩)) (c : Array Value) (h0 : RowH w g c) (hc : c.size = 11)
    (h : wpList Tryz.prog ops Q rest (a.put o.dst (.agg c)) w) : wpList Tryz.prog ops Q (o :: rest) a w := by
  have hu := hostUnd
  obtain ⟨d, hd⟩ : ∃ d, Tryz.prog.underlying 27 = some d := by
    cases hx : Tryz.prog.underlying 27 with
    | none => rw [hx] at hu; cases hu
    | some d => exact ⟨d, rfl⟩
  rw [hd] at hu
  cases d <;> first
    | exact wpList_load_row hgd _ x ho g hx _ c (0, 0) _ h0 hd rfl (by rw [hc]; exact hostSize) h
    | cases hu
theorem ret_host {fn : Func} {R : Ending → World → Prop} {a : Act} {w : World} (p u : Tmp) (hres : fn.results = #[.cell p 27, .tmp u]) (b : Nat) (hp : a.tmps.getD p undef = .pointer (some ⟨b, 0, none⟩))
    (c : Array Value) (hrow : RowH w b c) (hc : c.size = 11) (v : Value) (hv : a.tmps.getD u undef = v) (hd : a.defers = []) (hR : R (.returned (.tuple #[.agg c, v])) w) : bodyPost Tryz.prog fn R .ret a w := by
  refine bodyPost_ret (v := .tuple #[.agg c, v]) ?_ hd hR
  rw [results_cell_tmp hres, hp, hv]
  simp [asAddr, Result.andThen, load_host hrow hc]
theorem ret_host1 {fn : Func} {R : Ending → World → Prop} {a : Act} {w : World} (p : Tmp) (hres : fn.results = #[.cell p 27]) (b : Nat) (hp : a.tmps.getD p undef = .pointer (some ⟨b, 0, none⟩))
    (c : Array Value) (hrow : RowH w b c) (hc : c.size = 11) (hd : a.defers = []) (hR : R (.returned (.agg c)) w) : bodyPost Tryz.prog fn R .ret a w := by
  refine bodyPost_ret (v := .agg c) ?_ hd hR
  have hp' : a.tmps[p]?.getD undef = .pointer (some ⟨b, 0, none⟩) := by simpa using hp
  simp [results, hres, hp', asAddr, load_host hrow hc]
theorem domainHost_any (s : ByteArray) (w : World) : Calls Tryz.prog 68 #[.string s] w fun e w' => e = .returned (.agg (hc 1 s 0 z8)) ∧ Below w.heap.size w w' := by
  go_enter Tryz.func68, Tryz.ntmps68
  go_wp2
  exact ret_host1 2 rfl w.heap.size rfl (hc 1 s 0 z8) (row_new w _ _) rfl rfl ⟨rfl, (Below.refl _ _).alloc (Nat.le_refl _) _⟩
theorem ipv4Host_any (v : Int) (w : World) : Calls Tryz.prog 70 #[.int .u32 v] w fun e w' => e = .returned (.agg (hc 2 ⟨#[]⟩ v z8)) ∧ Below w.heap.size w w' := by
  go_enter Tryz.func70, Tryz.ntmps70
  go_wp2
  exact ret_host1 2 rfl w.heap.size rfl (hc 2 ⟨#[]⟩ v z8) (row_new w _ _) rfl rfl ⟨rfl, (Below.refl _ _).alloc (Nat.le_refl _) _⟩
theorem ipv6Host_any (g : List Nat) (hg : g.length = 8) (w : World) : Calls Tryz.prog 71 #[.agg (av g)] w fun e w' => e = .returned (.agg (hc 3 ⟨#[]⟩ 0 g)) ∧ Below w.heap.size w w' := by
  match g, hg with
  | [a, b, c, d, x, f, i, j], _ =>
    rw [show av [a, b, c, d, x, f, i, j] = #[.int .u16 (a : Int), .int .u16 (b : Int), .int .u16 (c : Int), .int .u16 (d : Int), .int .u16 (x : Int), .int .u16 (f : Int), .int .u16 (i : Int), .int .u16 (j : Int)] from rfl]
    go_enter Tryz.func71, Tryz.ntmps71
    go_wp2
    refine ret_host1 2 rfl (w.heap.size + 1) rfl (hc 3 ⟨#[]⟩ 0 [a, b, c, d, x, f, i, j]) ?_ rfl rfl ⟨rfl, ((Below.refl _ _).alloc (Nat.le_refl _) _).alloc (by simp) _⟩
    have := row_new (w.alloc (.cells #[.int .u16 (a : Int), .int .u16 (b : Int), .int .u16 (c : Int), .int .u16 (d : Int), .int .u16 (x : Int), .int .u16 (f : Int), .int .u16 (i : Int), .int .u16 (j : Int)] 25)) (hc 3 ⟨#[]⟩ 0 [a, b, c, d, x, f, i, j]) 27
    rw [World.size_alloc] at this
    exact this
end

section
open Go.RowKit
/-- An address as cells: zeros where there is none. -/
def arr6 (o : Option (List Nat)) : List Nat := o.getD (zerosN 8)
/-- What the loops keep. -/
structure PA (w W2 w3 wr : World) (a1 r1 : Nat) (C : List Nat) : Prop where
  ra : RowA wr a1 C
  rr : RowA wr r1 (zerosN 8)
  len : C.length = 8
  old : ∀ gb, W2.heap.size ≤ gb → gb < w3.heap.size → wr.heap[gb]? = w3.heap[gb]?
  bel : Below w.heap.size w wr
theorem PA.cell {w W2 w3 wr : World} {a1 r1 : Nat} {C : List Nat} (h : PA w W2 w3 wr a1 r1 C) {gb j : Nat} {v : Value} (h1 : W2.heap.size ≤ gb) (h2 : gb < w3.heap.size) (hc : w3.cell? ⟨gb, j, none⟩ = some v) : wr.cell? ⟨gb, j, none⟩ = some v := by
  rw [← hc]
  unfold World.cell?
  rw [h.old gb h1 h2]
theorem PA.set {w W2 w3 wr w' : World} {a1 r1 k x : Nat} {C : List Nat} (h : PA w W2 w3 wr a1 r1 C) (ha : a1 < W2.heap.size) (hne : r1 ≠ a1) (hw : w.heap.size ≤ a1)
    (hr : Row w' a1 25 ((av C).setIfInBounds k (.int .u16 (x : Int)))) (hg : wr.grownBy w' (some a1)) : PA w W2 w3 w' a1 r1 (C.set k x) := by
  refine ⟨?_, h.rr.grown hg hne, by simp [h.len], fun gb h1 h2 => ?_, below_row h.bel hg (Nat.le_refl _) hw⟩
  · rw [av_set] at hr; exact hr
  · have hlt : gb < wr.heap.size := by
      have := h.old gb h1 h2
      rw [Array.getElem?_eq_getElem h2] at this
      exact (Array.getElem?_eq_some_iff.1 this).1
    rw [hg.block gb hlt (fun e => by injection e with e; omega)]
    exact h.old gb h1 h2
theorem PA.more {w W2 w3 w4 wr : World} {a1 r1 : Nat} {C : List Nat} (_h : PA w W2 w3 wr a1 r1 C) (_hb : Below w3.heap.size w3 w4) (_he : wr = w4) : True := trivial
end

section
open Go.RowKit
/-- How far the loop has come. -/
def Digs (b n m : Nat) (L : List UInt8) : Prop := (L = [] ∧ m = n) ∨ (L ≠ [] ∧ m = 0 ∧ L = digsB b n) ∨ (L ≠ [] ∧ 0 < m ∧ digsB b m ++ L = digsB b n)
theorem Digs.next {b n m : Nat} {L : List UInt8} (hb : 2 ≤ b) (hn : n < 1099511627776) (hm : m < 1099511627776) (h : Digs b n m L) (hc : 0 < m ∨ L = []) : Digs b n (m / b) (hexc (m % b) :: L) := by
  have key : digsB b m ++ L = digsB b n := by
    rcases h with ⟨h1, h2⟩ | ⟨h1, h2, h3⟩ | ⟨h1, h2, h3⟩
    · subst h1 h2; simp
    · rcases hc with hc | hc
      · omega
      · exact absurd hc h1
    · exact h3
  by_cases hs : m < b
  · refine .inr (.inl ⟨by simp, Nat.div_eq_of_lt hs, ?_⟩)
    rw [← key, digsB_small hs, Nat.mod_eq_of_lt hs]; rfl
  · refine .inr (.inr ⟨by simp, Nat.div_pos (by omega) (by omega), ?_⟩)
    rw [← key, digsB_step hb hm hs]; simp
theorem Digs.len {b n m : Nat} {L : List UInt8} (h : Digs b n m L) (hl : (digsB b n).length ≤ 11) : L.length ≤ 11 := by
  rcases h with ⟨h1, h2⟩ | ⟨h1, h2, h3⟩ | ⟨h1, h2, h3⟩
  · subst h1; simp
  · rw [h3]; exact hl
  · rw [← h3] at hl; simp at hl; omega
theorem Digs.fin {b n : Nat} {L : List UInt8} (h : Digs b n 0 L) (hL : L ≠ []) : L = digsB b n := by
  rcases h with ⟨h1, h2⟩ | ⟨h1, h2, h3⟩ | ⟨h1, h2, h3⟩
  · exact absurd h1 hL
  · exact h3
  · omega
end

section
open Go.RowKit
end

section
open Go.RowKit
def Yes (w : World) (e : Ending) (w' : World) : Prop := e = .returned (.bool true) ∧ Below w.heap.size w w'
end

section
open Go.RowKit
/-- The variable's name. -/
def tabN : String := (Rows.urlParseMatchesSpecRow.laid.tail.tail.head (List.cons_ne_nil _ _)).1
/-- The variable holds the powers of ten. -/
def Pow (w : World) : Prop := Lib.TabIs Tryz.prog w tabN .u64 Lib.pow10Tab
theorem var_below {P : Program} {w w' : World} {n : String} {cs : Array Value} (h : w.var? P n = some cs) (hb : Below w.heap.size w w') : w'.var? P n = some cs := by
  unfold World.var? at h ⊢
  cases hg : P.globalNamed n with
  | none => rw [hg] at h; exact h
  | some g =>
    rw [hg] at h
    simp only [Option.bind_some] at h ⊢
    by_cases hlt : g < w.heap.size
    · rw [hb.block g hlt]
      exact h
    · rw [Array.getElem?_eq_none (by omega)] at h
      cases h
theorem pow_below {w w' : World} (h : Pow w) (hb : Below w.heap.size w w') : Pow w' := var_below h hb
end

section
open Go.RowKit
/-- The powers of ten, and the one entry that is read to the base 16. -/
def Pow6 (w : World) : Prop := Pow w ∧ w.cell? ⟨7, 15, none⟩ = some (.int .u8 4)
theorem cell_block {w : World} {b j : Nat} {v : Value} (h : w.cell? ⟨b, j, none⟩ = some v) : b < w.heap.size := by
  by_cases hb : b < w.heap.size
  · exact hb
  · exfalso
    have : w.heap[b]? = none := Array.getElem?_eq_none (by omega)
    simp [World.cell?, this] at h
theorem pow6_below {w w' : World} (h : Pow6 w) (hb : Below w.heap.size w w') : Pow6 w' :=
  ⟨pow_below h.1 hb, (hb.cell (cell_block h.2)).trans h.2⟩
end

section
open Go.RowKit
def P6Par (F : FuncId) : Prop := ∀ (s : ByteArray) (w : World), s.size ≤ 1000000000 → Pow6 w → Calls Tryz.prog F #[.string s] w fun e w' => e = .returned (.tuple #[.agg (av (arr6 (parse6 (ls s)))), .bool (parse6 (ls s)).isSome]) ∧ Below w.heap.size w w'
def P6Fmt (F : FuncId) : Prop := ∀ (a : List Nat), a.length = 8 → G16 a → ∀ w : World, Pow6 w → Calls Tryz.prog F #[.agg (av a)] w fun e w' => e = .returned (.string (bs (fmt6 a))) ∧ Below w.heap.size w w'
theorem G16.zeros (n : Nat) : G16 (zerosN n) := by intro x hx; have := (List.mem_replicate.1 hx).2; omega
/-- Whether two arrays are equal. -/
theorem eqItems_av (W : World) (C D : List Nat) : ∀ is : List Nat, (∀ i ∈ is, i < C.length ∧ i < D.length) → (Op.eqItems 9999 24 1 (av C) (av D) is).run Tryz.prog W = .ok (is.all fun i => C.getD i 0 == D.getD i 0) W
  | [], _ => by simp [Op.eqItems]
  | i :: r, h => by
    have hi := h i (by simp)
    have ih := eqItems_av W C D r (fun j hj => h j (by simp [hj]))
    have e1 := av_get C i hi.1
    have e2 := av_get D i hi.2
    have hp : ∀ E : List Nat, i < E.length → (part 24 (av E) (i * 1)).run Tryz.prog W = .ok (.int .u16 ((E.getD i 0 : Nat) : Int)) W := by
      intro E hE
      have e := av_get E i hE
      obtain ⟨q, hq, _⟩ : ∃ q, Tryz.prog.info? 24 = some q ∧ q.size = 1 := by
        cases hq : Tryz.prog.info? 24 with
        | none => have := sizeU16; rw [hq] at this; cases this
        | some q => have := sizeU16; rw [hq] at this; exact ⟨q, rfl, by simpa using this⟩
      rename_i hs
      simp [part, run_underlying tyU16, isAgg, sizeOf, typeInfo, e, Result.andThen]
    have heq : (Op.equalIn 9999 24 (.int .u16 ((C.getD i 0 : Nat) : Int)) (.int .u16 ((D.getD i 0 : Nat) : Int))).run Tryz.prog W = .ok (((C.getD i 0 : Nat) : Int) == ((D.getD i 0 : Nat) : Int)) W :=
      run_equalIn_int W 9998 24 .u16 .u16 _ _ tyU16
    have hb : (((C.getD i 0 : Nat) : Int) == ((D.getD i 0 : Nat) : Int)) = (C.getD i 0 == D.getD i 0) := by
      apply Bool.eq_iff_iff.2
      simp only [beq_iff_eq]
      omega
    simp only [Op.eqItems, Sem.run_bind, hp C hi.1, hp D hi.2, Result.andThen_ok, heq, hb, List.all_cons]
    cases hc : (C.getD i 0 == D.getD i 0) with
    | true => simpa using ih
    | false => simp
theorem cellsU16 : Tryz.prog.cellsOf 24 = 1 := by kernel_rfl
theorem eq_av (C D : List Nat) (hC : C.length = 8) (hD : D.length = 8) : ∀ W, (binOp .eql 25 (.agg (av C)) (.agg (av D))).run Tryz.prog W = .ok (.bool (decide (C = D))) W := by
  intro W
  obtain ⟨q, hq⟩ : ∃ q, Tryz.prog.info? 24 = some q := by
    cases hq : Tryz.prog.info? 24 with
    | none => have := sizeU16; rw [hq] at this; cases this
    | some q => exact ⟨q, rfl⟩
  have h1 := run_equalIn_array (w := W) 9999 (av C) (av D) tyA8 hq
  rw [cellsU16, eqItems_av W C D (List.range 8) (fun i hi => by have := List.mem_range.1 hi; omega)] at h1
  have hall : ((List.range 8).all fun i => C.getD i 0 == D.getD i 0) = decide (C = D) := by
    apply Bool.eq_iff_iff.2
    rw [List.all_eq_true, decide_eq_true_iff]
    constructor
    · intro h
      apply List.ext_getElem (by omega)
      intro i h1 h2
      have := h i (List.mem_range.2 (by omega))
      simpa [List.getD_eq_getElem?_getD, List.getElem?_eq_getElem h1, List.getElem?_eq_getElem h2] using this
    · intro h i _
      rw [h]; simp
  rw [hall] at h1
  rw [run_eql_struct, h1]
  rfl
end

end Go.Proofs.YtdfacgncphmcoaaGreatDoor
