/-
URLs in memory: the value of a URL, its variable as one row, the host within it, equality.
What decoding a string byte by byte gives, valid or not; where a function of runes that holds for small bytes alone is met. No program.
strings.Cut at a text of one byte.
-/
import Derived.Test.YtekaljeicfjkjaaGreatDoorK05
import Derived.Test.YtekaljeicfjkjaaGreatDoorK16
import Derived.Deep.MidRow
import Derived.Test.YtekaljeicfjkjaaGreatDoorK04
import Derived.Shelf.GgClosure.StringsIndexFunc
import Derived.Test.YtekaljeicfjkjaaGreatDoorK07
import Derived.Test.YtekaljeicfjkjaaGreatDoorShelf
import Derived.Shelf.RegionOpen
import Derived.WalkKit
import Derived.BigQuiet
import Derived.Deep.QuietTactic
namespace Go.Proofs.YtekaljeicfjkjaaGreatDoor
section
open Go.RowKit
set_option maxHeartbeats 16000000
def uc (s u : ByteArray) (k : Int) (n : ByteArray) (v : Int) (g : List Nat) (p : Int) (r : ByteArray) : Array Value :=
 #[.string s, .string u, .int .i64 k, .string n, .int .u32 v, .int .u16 ((g.getD 0 0 : Nat) : Int), .int .u16 ((g.getD 1 0 : Nat) : Int), .int .u16 ((g.getD 2 0 : Nat) : Int), .int .u16 ((g.getD 3 0 : Nat) : Int), .int .u16 ((g.getD 4 0 : Nat) : Int), .int .u16 ((g.getD 5 0 : Nat) : Int), .int .u16 ((g.getD 6 0 : Nat) : Int), .int .u16 ((g.getD 7 0 : Nat) : Int), .int .i64 p, .string r]
theorem z83 (s u : ByteArray) (k : Int) (n : ByteArray) (v : Int) (g : List Nat) (p : Int) (r : ByteArray) : (uc s u k n v g p r).all (·.oneCell') = true := by
 simp [uc, Value.oneCell']
def Uv.cells (u : Uv) : Array Value := uc (bs u.scheme) (bs u.user) u.host.kind (bs u.host.name) (u.host.v4 : Nat) u.host.v6 u.port (bs u.rest)
def Uv.val (u : Uv) : Value := .agg u.cells
def uz : Array Value := uc ⟨#[]⟩ ⟨#[]⟩ 0 ⟨#[]⟩ 0 z8 0 ⟨#[]⟩
theorem z84 : (Tryz.prog.underlying 28).map (fun d => match d with | .struct _ | .array _ _ => true | _ => false) = some true := by kernel_rfl
theorem z85 : (Tryz.prog.info? 28).map (·.size) = some 15 := by kernel_rfl
theorem z86 : (Tryz.prog.underlying 26).map (·.isRow) = some true := by kernel_rfl
theorem z87 : (Tryz.prog.info? 9).map (·.size) = some 1 := by kernel_rfl
theorem z88 : (Tryz.prog.info? 3).map (·.size) = some 1 := by kernel_rfl
def z89 (w : World) (b : Nat) (c : Array Value) : Prop := Row w b 28 c
theorem Row.at9 {w : World} {g : Nat} {t : TypeId} {c : Array Value} (h : Row w g t c) {k : Nat} {v : Value} (hv : c[k]? = some v) : w.cell? ⟨g, k, none⟩ = some v := by
 obtain ⟨hk, e⟩ := Array.getElem?_eq_some_iff.1 hv
 rw [h.cell hk, e]
theorem z9a {w : World} {b : Nat} {c : Array Value} (h : z89 w b c) (hc : c.size = 15) : (loadVar 28 ⟨b, 0, none⟩).run Tryz.prog w = .ok (.agg c) w := by
 have hu := z84
 obtain ⟨d, hd⟩ : ∃ d, Tryz.prog.underlying 28 = some d := by
  cases hx : Tryz.prog.underlying 28 with
  | none => rw [hx] at hu; cases hu
  | some d => exact ⟨d, rfl⟩
 rw [hd] at hu
 cases d <;> first
  | exact run_loadVar_row (P := Tryz.prog) w b _ _ c (0, 0) _ h hd rfl (by rw [hc]; exact z85)
  | cases hu
theorem z9b {ops : Array Oper} {rest : List Oper} {o : Oper} {a : Act} {w : World} {Q : Exit -> Act -> World -> Prop} (hw : Region.wanted o (yielded ops a.tmps) = true) (x : Operand) (ho : o.op = .load 28 x)
 (g : Nat) (hx : a.eval x = .pointer (some ⟨g, 0, none⟩)) (c : Array Value) (h0 : z89 w g c) (hc : c.size = 15)
 (h : wpList Tryz.prog ops Q rest (a.put o.dst (.agg c)) w) : wpList Tryz.prog ops Q (o :: rest) a w := by
 have hl := z9a h0 hc
 unfold wpList
 rw [if_pos hw]
 left
 unfold Oper.wp
 simp only [execOp, ho, hx, Instr.loadAt, Instr.sureAddr, Sem.run_bind, Sem.run_pure, Result.andThen, hl]
 exact h
theorem z9c {ops : Array Oper} {rest : List Oper} {o : Oper} {a : Act} {w : World} {Q : Exit -> Act -> World -> Prop} (hw : Region.wanted o (yielded ops a.tmps) = true) (x : Operand) (ho : o.op = .load 26 x)
 (g : Nat) (hx : a.eval x = .pointer (some ⟨g, 2, none⟩)) (c : Array Value) (h0 : z89 w g c) (H : Array Value) (hH : c.extract 2 13 = H) (hH2 : H.size = 11)
 (h : wpList Tryz.prog ops Q rest (a.put o.dst (.agg H)) w) : wpList Tryz.prog ops Q (o :: rest) a w := by
 have hu := z86
 obtain ⟨d, hd⟩ : ∃ d, Tryz.prog.underlying 26 = some d := by
  cases hx : Tryz.prog.underlying 26 with
  | none => rw [hx] at hu; cases hu
  | some d => exact ⟨d, rfl⟩
 rw [hd] at hu
 have hr := World.rangeAt_of_block h0 2 11
 rw [show 2 + 11 = 13 from rfl, hH] at hr
 have hl := run_loadVar_mid (P := Tryz.prog) w g 2 26 H.toList d hr hd (by simpa using hu) (by rw [Array.length_toList, hH2]; exact zgx)
 rw [Array.toArray_toList] at hl
 unfold wpList
 rw [if_pos hw]
 left
 unfold Oper.wp
 simp only [execOp, ho, hx, Instr.loadAt, Instr.sureAddr, Sem.run_bind, Sem.run_pure, Result.andThen, hl]
 exact h
theorem z9d {ops : Array Oper} {rest : List Oper} {o : Oper} {a : Act} {w : World} {Q : Exit -> Act -> World -> Prop} (hgd : o.guard = none) (hd : o.dst = none) (p x : Operand) (ho : o.op = .store 28 p x)
 (g : Nat) (hp : a.eval p = .pointer (some ⟨g, 0, none⟩)) (c' : Array Value) (hx : a.eval x = .agg c') (c : Array Value) (hrow : z89 w g c) (hc : c.size = 15) (hc' : c'.size = 15) (h1 : c'.all (·.oneCell') = true)
 (h : ∀ w', z89 w' g c' -> w.grownBy w' (some g) -> wpList Tryz.prog ops Q rest a w') : wpList Tryz.prog ops Q (o :: rest) a w :=
 za0 w hgd hd _ p x ho g hp c' hx _ c hrow (by rw [hc']; exact z85) (by rw [hc, hc']) h1 h
theorem z9e {fn : Func} {R : Ending -> World -> Prop} {a : Act} {w : World} (p u : Tmp) (hres : fn.results = #[.cell p 28, .tmp u]) (b : Nat) (hp : a.tmps.getD p undef = .pointer (some ⟨b, 0, none⟩))
 (c : Array Value) (hrow : z89 w b c) (hc : c.size = 15) (v : Value) (hv : a.tmps.getD u undef = v) (hd : a.defers = []) (hR : R (.returned (.tuple #[.agg c, v])) w) : bodyPost Tryz.prog fn R .ret a w := by
 refine bodyPost_ret (v := .tuple #[.agg c, v]) ?_ hd hR
 rw [results_cell_tmp hres, hp, hv]
 simp [asAddr, Result.andThen, z9a hrow hc]
theorem z9f {fn : Func} {R : Ending -> World -> Prop} {a : Act} {w : World} (p : Tmp) (hres : fn.results = #[.cell p 28]) (b : Nat) (hp : a.tmps.getD p undef = .pointer (some ⟨b, 0, none⟩))
 (c : Array Value) (hrow : z89 w b c) (hc : c.size = 15) (hd : a.defers = []) (hR : R (.returned (.agg c)) w) : bodyPost Tryz.prog fn R .ret a w := by
 refine bodyPost_ret (v := .agg c) ?_ hd hR
 have hp' : a.tmps[p]?.getD undef = .pointer (some ⟨b, 0, none⟩) := by simpa using hp
 simp [results, hres, hp', asAddr, z9a hrow hc]
structure UC (C : Array Value) (S U N : ByteArray) (H : Array Value) (p : Int) (R : ByteArray) : Prop where
 sz : C.size = 15
 one : C.all (·.oneCell') = true
 c0 : C[0]? = some (.string S)
 c1 : C[1]? = some (.string U)
 c3 : C[3]? = some (.string N)
 c13 : C[13]? = some (.int .i64 p)
 c14 : C[14]? = some (.string R)
 hh : C.extract 2 13 = H
theorem z9g (u : Uv) : UC u.cells (bs u.scheme) (bs u.user) (bs u.host.name) u.host.cells u.port (bs u.rest) :=
 ⟨rfl, z83 _ _ _ _ _ _ _ _, rfl, rfl, rfl, rfl, rfl, rfl⟩
theorem UC.cell {C : Array Value} {S U N : ByteArray} {H : Array Value} {p : Int} {R : ByteArray} (h : UC C S U N H p R) {W : World} {B : Nat} (hr : z89 W B C) :
 W.cell? ⟨B, 0, none⟩ = some (.string S) /\ W.cell? ⟨B, 1, none⟩ = some (.string U) /\ W.cell? ⟨B, 3, none⟩ = some (.string N) /\ W.cell? ⟨B, 13, none⟩ = some (.int .i64 p) /\ W.cell? ⟨B, 14, none⟩ = some (.string R) :=
 ⟨Row.at9 hr h.c0, Row.at9 hr h.c1, Row.at9 hr h.c3, Row.at9 hr h.c13, Row.at9 hr h.c14⟩
theorem z9h {C : Array Value} {k : Nat} {v : Value} (h : C[k]? = some v) : C.setIfInBounds k v = C := by
 obtain ⟨hk, e⟩ := Array.getElem?_eq_some_iff.1 h
 apply Array.ext
 ·simp
 ·intro i h1 h2
  rw [Array.getElem_setIfInBounds]
  split
  ·rename_i hik
   subst hik
   exact e.symm
  ·rfl
theorem z9i (d : Nat) (W : World) (C D : List Nat) : ∀ is : List Nat, (∀ i ∈ is, i < C.length /\ i < D.length) -> (Op.eqItems (d + 1) 23 1 (av C) (av D) is).run Tryz.prog W = .ok (is.all fun i => C.getD i 0 == D.getD i 0) W
 | [], _ => by simp [Op.eqItems]
 | i :: r, h => by
   have hi := h i (by simp)
   have ih := z9i d W C D r (fun j hj => h j (by simp [hj]))
   have hp : ∀ E : List Nat, i < E.length -> (part 23 (av E) (i * 1)).run Tryz.prog W = .ok (.int .u16 ((E.getD i 0 : Nat) : Int)) W := by
    intro E hE
    have e := zad E i hE
    obtain ⟨q, hq, _⟩ : ∃ q, Tryz.prog.info? 23 = some q /\ q.size = 1 := by
     cases hq : Tryz.prog.info? 23 with
     | none => have := zka; rw [hq] at this; cases this
     | some q => have := zka; rw [hq] at this; exact ⟨q, rfl, by simpa using this⟩
    rename_i hs
    simp [part, run_underlying zj8, isAgg, sizeOf, typeInfo, e, Result.andThen]
   have heq : (Op.equalIn (d + 1) 23 (.int .u16 ((C.getD i 0 : Nat) : Int)) (.int .u16 ((D.getD i 0 : Nat) : Int))).run Tryz.prog W = .ok (((C.getD i 0 : Nat) : Int) == ((D.getD i 0 : Nat) : Int)) W :=
    run_equalIn_int W d 23 .u16 .u16 _ _ zj8
   have hb : (((C.getD i 0 : Nat) : Int) == ((D.getD i 0 : Nat) : Int)) = (C.getD i 0 == D.getD i 0) := by
    apply Bool.eq_iff_iff.2
    simp only [beq_iff_eq]
    omega
   simp only [Op.eqItems, Sem.run_bind, hp C hi.1, hp D hi.2, Result.andThen_ok, heq, hb, List.all_cons]
   cases hc : (C.getD i 0 == D.getD i 0) with
   | true => simpa using ih
   | false => simp
theorem z9j (d : Nat) (C D : List Nat) (hC : C.length = 8) (hD : D.length = 8) (W : World) : (Op.equalIn (d + 1 + 1) 24 (.agg (av C)) (.agg (av D))).run Tryz.prog W = .ok (decide (C = D)) W := by
 obtain ⟨q, hq⟩ : ∃ q, Tryz.prog.info? 23 = some q := by
  cases hq : Tryz.prog.info? 23 with
  | none => have := zka; rw [hq] at this; cases this
  | some q => exact ⟨q, rfl⟩
 have h1 := run_equalIn_array (P := Tryz.prog) (w := W) (d + 1) (av C) (av D) zae hq
 rw [zk2, z9i d W C D (List.range 8) (fun i hi => by have := List.mem_range.1 hi; omega)] at h1
 have hall : ((List.range 8).all fun i => C.getD i 0 == D.getD i 0) = decide (C = D) := by
  apply Bool.eq_iff_iff.2
  rw [List.all_eq_true, decide_eq_true_iff]
  constructor
  ·intro h
   apply List.ext_getElem (by omega)
   intro i h1 h2
   have := h i (List.mem_range.2 (by omega))
   simpa [List.getD_eq_getElem?_getD, List.getElem?_eq_getElem h1, List.getElem?_eq_getElem h2] using this
  ·intro h i _
   rw [h]; simp
 rw [hall] at h1
 exact h1
def eqU (u v : Uv) : Bool := decide (u.scheme = v.scheme) && (decide (u.user = v.user) && (decide (u.host.kind = v.host.kind) && (decide (u.host.name = v.host.name) && (decide (u.host.v4 = v.host.v4) && (decide (u.host.v6 = v.host.v6) && (decide (u.port = v.port) && decide (u.rest = v.rest)))))))
theorem z9k (u v : Uv) : eqU u v = true ↔ u = v := by
 obtain ⟨s, a, ⟨k, n, x, g⟩, p, r⟩ := u
 obtain ⟨s', a', ⟨k', n', x', g'⟩, p', r'⟩ := v
 unfold eqU
 simp only [decide_eq_true_eq, Bool.and_eq_true, Uv.mk.injEq, Hv.mk.injEq]
 constructor
 ·rintro ⟨h1, h2, h3, h4, h5, h6, h7, h8⟩
  exact ⟨h1, h2, ⟨h3, h4, h5, h6⟩, h7, h8⟩
 ·rintro ⟨h1, h2, ⟨h3, h4, h5, h6⟩, h7, h8⟩
  exact ⟨h1, h2, h3, h4, h5, h6, h7, h8⟩
theorem z9l (u : Uv) : eqU u u = true := (z9k u u).2 rfl
set_option maxRecDepth 20000 in
theorem z9m (u v : Uv) (hu : u.host.Wf) (hv : v.host.Wf) (W : World) :
 (binOp .eql 28 (.agg u.cells) (.agg v.cells)).run Tryz.prog W = .ok (.bool (eqU u v)) W := by
 obtain ⟨s, a, ⟨k, n, x, g⟩, p, r⟩ := u
 obtain ⟨s', a', ⟨k', n', x', g'⟩, p', r'⟩ := v
 have hg : g.length = 8 := hu.2.1
 have hg' : g'.length = 8 := hv.2.1
 have h8 := z9j 9996 g g' hg hg' W
 have e0 : eqU (Uv.mk s a ⟨k, n, x, g⟩ p r) (Uv.mk s' a' ⟨k', n', x', g'⟩ p' r') = (decide ((bs s).toList = (bs s').toList) && (decide ((bs a).toList = (bs a').toList) && (decide (k = k') && (decide ((bs n).toList = (bs n').toList) && (decide ((x : Int) = (x' : Int)) && (decide (g = g') && (decide (p = p') && decide ((bs r).toList = (bs r').toList)))))))) := by
  unfold eqU
  simp only [zb3, zb0, decide_eq_decide.2 (Int.ofNat_inj (m := x) (n := x'))]
 rw [e0]
 obtain ⟨a0, a1, a2, a3, a4, a5, a6, a7, rfl⟩ := zf5 g hg
 obtain ⟨b0, b1, b2, b3, b4, b5, b6, b7, rfl⟩ := zf5 g' hg'
 obtain ⟨q, hq⟩ : ∃ q, q = decide ([a0, a1, a2, a3, a4, a5, a6, a7] = [b0, b1, b2, b3, b4, b5, b6, b7]) := ⟨_, rfl⟩
 rw [<- hq] at h8 ⊢
 rw [show av [a0, a1, a2, a3, a4, a5, a6, a7] = #[.int .u16 (a0 : Int), .int .u16 (a1 : Int), .int .u16 (a2 : Int), .int .u16 (a3 : Int), .int .u16 (a4 : Int), .int .u16 (a5 : Int), .int .u16 (a6 : Int), .int .u16 (a7 : Int)] from rfl, show av [b0, b1, b2, b3, b4, b5, b6, b7] = #[.int .u16 (b0 : Int), .int .u16 (b1 : Int), .int .u16 (b2 : Int), .int .u16 (b3 : Int), .int .u16 (b4 : Int), .int .u16 (b5 : Int), .int .u16 (b6 : Int), .int .u16 (b7 : Int)] from rfl] at h8
 rw [show (Uv.mk s a ⟨k, n, x, [a0, a1, a2, a3, a4, a5, a6, a7]⟩ p r).cells = #[.string (bs s), .string (bs a), .int .i64 k, .string (bs n), .int .u32 (x : Nat), .int .u16 (a0 : Int), .int .u16 (a1 : Int), .int .u16 (a2 : Int), .int .u16 (a3 : Int), .int .u16 (a4 : Int), .int .u16 (a5 : Int), .int .u16 (a6 : Int), .int .u16 (a7 : Int), .int .i64 p, .string (bs r)] from rfl,
  show (Uv.mk s' a' ⟨k', n', x', [b0, b1, b2, b3, b4, b5, b6, b7]⟩ p' r').cells = #[.string (bs s'), .string (bs a'), .int .i64 k', .string (bs n'), .int .u32 (x' : Nat), .int .u16 (b0 : Int), .int .u16 (b1 : Int), .int .u16 (b2 : Int), .int .u16 (b3 : Int), .int .u16 (b4 : Int), .int .u16 (b5 : Int), .int .u16 (b6 : Int), .int .u16 (b7 : Int), .int .i64 p', .string (bs r')] from rfl]
 generalize bs s = S1 at *
 generalize bs s' = S2 at *
 generalize bs a = A1 at *
 generalize bs a' = A2 at *
 generalize bs n = N1 at *
 generalize bs n' = N2 at *
 generalize bs r = R1 at *
 generalize bs r' = R2 at *
 generalize (x : Int) = X1 at *
 generalize (x' : Int) = X2 at *
 clear hu hv e0 hq hg hg'
 by_cases h1 : S1.toList = S2.toList
 ·by_cases h2 : A1.toList = A2.toList
  ·by_cases h3 : k = k'
   ·by_cases h4 : N1.toList = N2.toList
    ·by_cases h5 : X1 = X2
     ·cases q
      ·simp [go_sem, h1, h2, h3, h4, h5, h8]
      ·by_cases h6 : p = p'
       ·by_cases h7 : R1.toList = R2.toList <;> simp [go_sem, h1, h2, h3, h4, h5, h6, h7, h8]
       ·simp [go_sem, h1, h2, h3, h4, h5, h6, h8]
     ·simp [go_sem, h1, h2, h3, h4, h5]
    ·simp [go_sem, h1, h2, h3, h4]
   ·simp [go_sem, h1, h2, h3]
  ·simp [go_sem, h1, h2]
 ·simp [go_sem, h1]
end

section
open Go.RowKit
set_option maxHeartbeats 16000000
theorem z43 (s : ByteArray) (i : Nat) (h : i < s.size) : s.get! i = s[i] := by
 have e : s.get! i = s.data[i]! := rfl
 rw [e, getElem!_pos s.data i (by simpa using h)]
 rfl
theorem z44 (s : ByteArray) (i : Nat) (h : i < s.size) : ((s[i]).toNat < 128 /\ Utf8.decode s i = ((s[i]).toNat, 1)) \/
 (128 <= (s[i]).toNat /\ 128 <= (Utf8.decode s i).1 /\ 1 <= (Utf8.decode s i).2 /\ i + (Utf8.decode s i).2 <= s.size /\ ∀ j (hj : j < s.size), i <= j -> j < i + (Utf8.decode s i).2 -> 128 <= (s[j]).toNat) := by
 have g0 : (s.get! (i + 0)).toNat = (s[i]).toNat := by rw [Nat.add_zero, z43 s i h]
 have hc : ∀ k, (decide (i + k < s.size) && (s.get! (i + k)).toNat / 64 == 2) = true -> ∃ hk : i + k < s.size, 128 <= (s[i + k]).toNat := by
  intro k hk
  rw [Bool.and_eq_true, decide_eq_true_iff, beq_iff_eq] at hk
  refine ⟨hk.1, ?_⟩
  have := hk.2
  rw [z43 s (i + k) hk.1] at this
  omega
 have one : ∀ j (hj : j < s.size), i <= j -> j < i + 1 -> 128 <= (s[i]).toNat -> 128 <= (s[j]).toNat := by
  intro j hj h1 h2 h3
  have : j = i := by omega
  subst this
  exact h3
 by_cases hb : (s[i]).toNat < 128
 ·left
  refine ⟨hb, ?_⟩
  unfold Utf8.decode
  simp only [g0]
  rw [if_pos hb]
 ·right
  refine ⟨by omega, ?_⟩
  have hb' : 128 <= (s[i]).toNat := by omega
  have hre : (128 : Nat) <= Utf8.runeError := by decide
  unfold Utf8.decode
  simp only [g0]
  rw [if_neg hb]
  split
  ·rename_i h1
   rw [Bool.and_eq_true] at h1
   obtain ⟨k1, c1⟩ := hc 1 h1.2
   split
   ·rename_i h2
    refine ⟨h2, by simp, by simp; omega, ?_⟩
    intro j hj a b
    have : j = i \/ j = i + 1 := by simp at b; omega
    rcases this with rfl | rfl
    ·exact hb'
    ·exact c1
   ·exact ⟨hre, by decide, by simp; omega, fun j hj a b => one j hj a b hb'⟩
  ·split
   ·rename_i h1
    rw [Bool.and_eq_true, Bool.and_eq_true] at h1
    obtain ⟨k1, c1⟩ := hc 1 h1.1.2
    obtain ⟨k2, c2⟩ := hc 2 h1.2
    split
    ·rename_i h2
     rw [Bool.and_eq_true, decide_eq_true_iff] at h2
     refine ⟨by have := h2.1; simp at this ⊢; omega, by simp, by simp; omega, ?_⟩
     intro j hj a b
     have : j = i \/ j = i + 1 \/ j = i + 2 := by simp at b; omega
     rcases this with rfl | rfl | rfl
     ·exact hb'
     ·exact c1
     ·exact c2
    ·exact ⟨hre, by decide, by simp; omega, fun j hj a b => one j hj a b hb'⟩
   ·split
    ·rename_i h1
     rw [Bool.and_eq_true, Bool.and_eq_true, Bool.and_eq_true] at h1
     obtain ⟨k1, c1⟩ := hc 1 h1.1.1.2
     obtain ⟨k2, c2⟩ := hc 2 h1.1.2
     obtain ⟨k3, c3⟩ := hc 3 h1.2
     split
     ·rename_i h2
      rw [Bool.and_eq_true, decide_eq_true_iff] at h2
      refine ⟨by have := h2.1; simp at this ⊢; omega, by simp, by simp; omega, ?_⟩
      intro j hj a b
      have : j = i \/ j = i + 1 \/ j = i + 2 \/ j = i + 3 := by simp at b; omega
      rcases this with rfl | rfl | rfl | rfl
      ·exact hb'
      ·exact c1
      ·exact c2
      ·exact c3
     ·exact ⟨hre, by decide, by simp; omega, fun j hj a b => one j hj a b hb'⟩
    ·exact ⟨hre, by decide, by simp; omega, fun j hj a b => one j hj a b hb'⟩
theorem z45 (p : Nat -> Bool) (q : UInt8 -> Bool) (h1 : ∀ b : UInt8, b.toNat < 128 -> p b.toNat = q b) (h2 : ∀ n, 128 <= n -> p n = false) (h3 : ∀ b : UInt8, 128 <= b.toNat -> q b = false) (s : ByteArray) :
 ∀ (f i : Nat), s.size <= i + f -> decide (0 <= Lib.idxFuncFrom p true s f i) = ((ls s).drop i).any q
 | 0, i, h => by
   rw [List.drop_eq_nil_of_le (by rw [zb4]; omega)]
   rfl
 | f + 1, i, h => by
   unfold Lib.idxFuncFrom
   by_cases hi : i < s.size
   ·rw [if_pos hi]
    rcases z44 s i hi with ⟨hb, e⟩ | ⟨hb, d1, d2, d3, d4⟩
    ·rw [e, zcc s i hi, List.any_cons, <- h1 _ hb]
     cases hp : p (s[i]).toNat with
     | true =>
       rw [if_pos rfl]
       simp
     | false =>
       rw [if_neg (by simp)]
       have := z45 p q h1 h2 h3 s f (i + 1) (by omega)
       simpa using this
    ·rw [if_neg (by rw [h2 _ d1]; simp)]
     have ih := z45 p q h1 h2 h3 s f (i + (Utf8.decode s i).2) (by omega)
     rw [ih]
     have key : ∀ k, i + k <= i + (Utf8.decode s i).2 -> ((ls s).drop i).any q = ((ls s).drop (i + k)).any q := by
      intro k
      induction k with
      | zero => intro _; rfl
      | succ k ihk =>
        intro hk
        rw [ihk (by omega), zcc s (i + k) (by omega), List.any_cons, h3 _ (d4 (i + k) (by omega) (by omega) (by omega)), Bool.false_or]
        rfl
     rw [key _ jH]
   ·rw [if_neg hi, List.drop_eq_nil_of_le (by rw [zb4]; omega)]
    rfl
end

section
open Go.RowKit Go.Shelf
set_option maxHeartbeats 16000000
theorem zcs (s : ByteArray) (c : UInt8) (w : World) : Calls Tryz.prog 103 #[.string s, .string ⟨#[c]⟩] w fun e w' => e = .returned (.int .i64 (Lib.indexByte (ls s) c)) /\ w' = w :=
 Any.stringslite_Index_one { Tryz.lays143 with } s c w
theorem zct (s : ByteArray) (k : Nat) : ls (s.extract k s.size) = (ls s).drop k := by
 rw [zb9, List.take_of_length_le]
 rw [List.length_drop, zb4]
 exact jH
def zcu (s : ByteArray) (c : UInt8) (w : World) (e : Ending) (w' : World) : Prop :=
 e = .returned (.tuple #[.string (bs (zcx (isB c) (ls s))), .string (bs ((zcy (isB c) (ls s)).drop 1)), .bool ((ls s).any (isB c))]) /\ Below w.heap.size w w'
theorem zcv (s : ByteArray) (c : UInt8) (w : World) (hs : s.size <= 1000000000) : Calls Tryz.prog 76 #[.string s, .string ⟨#[c]⟩] w (zcu s c w) := by
 have ci := fun W => zcs s c W
 unfold zcu
 have hbf := zcz (isB c) (ls s)
 rcases zc9 c (ls s) with ⟨h1, h2, h3⟩ | ⟨r, h1, h2⟩
 ·simp only [h1] at ci
  have ea : (ls s).any (isB c) = false := by
   refine zc6 fun b hb => ?_
   rw [<- h2] at hb
   exact zc0 _ _ b hb
  rw [h2, h3, ea, zb1]
  clear h1 h2 h3 ea hbf
  go_enter Tryz.func76, Tryz.ntmps76
  go_wp2_with (go_at_call 103; refine (ci _).mono ?_; rintro e w1 ⟨rfl, rfl⟩)
  go_ret3
  exact ⟨rfl, Below.refl _ _⟩
 ·have ea : (ls s).any (isB c) = true := by
   rw [zc4, <- hbf, h1]
   simp
  have hz : (zcx (isB c) (ls s)).length + 1 <= s.size := by
   have := congrArg List.length hbf
   rw [h1, List.length_append, List.length_cons, zb4] at this
   omega
  have e1 : ls (s.extract 0 (zcx (isB c) (ls s)).length) = zcx (isB c) (ls s) := by
   rw [zb9, List.drop_zero, Nat.sub_zero]
   have : (ls s).take (zcx (isB c) (ls s)).length = (zcx (isB c) (ls s) ++ zcy (isB c) (ls s)).take (zcx (isB c) (ls s)).length := by rw [hbf]
   rw [this, List.take_left]
  have e2 : ls (s.extract ((zcx (isB c) (ls s)).length + 1) s.size) = (zcy (isB c) (ls s)).drop 1 := by
   rw [zct]
   have : (ls s).drop ((zcx (isB c) (ls s)).length + 1) = (zcx (isB c) (ls s) ++ zcy (isB c) (ls s)).drop ((zcx (isB c) (ls s)).length + 1) := by rw [hbf]
   rw [this, <- List.drop_drop, List.drop_left]
  rw [ea]
  have f1 : s.extract 0 (zcx (isB c) (ls s)).length = bs (zcx (isB c) (ls s)) := by rw [<- e1, zb1, e1]
  have f2 : s.extract ((zcx (isB c) (ls s)).length + 1) s.size = bs ((zcy (isB c) (ls s)).drop 1) := by rw [<- e2, zb1]
  rw [<- f1, <- f2]
  simp only [h2] at ci
  generalize (zcx (isB c) (ls s)).length = k at *
  clear h1 h2 ea hbf e1 e2 f1 f2
  have g1 : (k : Int) + 1 <= (s.size : Int) := by omega
  go_enter Tryz.func76, Tryz.ntmps76
  go_wp2_with (go_at_call 103; refine (ci _).mono ?_; rintro e w1 ⟨rfl, rfl⟩)
  go_quiet (fail)
  go_wp2
  go_ret3
  first | exact ⟨rfl, below_drewN (Below.refl _ _) _⟩ | exact ⟨rfl, below_drewN _ _⟩
theorem zcw (s : ByteArray) (c : UInt8) (w : World) (hs : s.size <= 1000000000) : Calls Tryz.prog 55 #[.string s, .string ⟨#[c]⟩] w (zcu s c w) := by
 have ci := zcv s c w hs
 unfold zcu at ci ⊢
 generalize bs (zcx (isB c) (ls s)) = X at *
 generalize bs ((zcy (isB c) (ls s)).drop 1) = Y at *
 generalize (ls s).any (isB c) = q at *
 go_enter Tryz.func55, Tryz.ntmps55
 go_wp2_with (go_at_call 76; refine ci.mono ?_; rintro e w1 ⟨rfl, hb⟩)
 go_ret3
 exact ⟨rfl, hb⟩
end

end Go.Proofs.YtekaljeicfjkjaaGreatDoor
