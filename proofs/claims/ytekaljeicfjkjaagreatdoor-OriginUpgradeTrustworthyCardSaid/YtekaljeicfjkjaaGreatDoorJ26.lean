/-
Origins in memory: the value of an origin, its variable as one row, the host within it, equality.
Contract of Digits of the reference of layer 1.
Contracts of digit, number, parts and decimal of the reference of layer 10.
Contracts of number and decimal of the reference of layer 10 (written by tools/gen-Ip2.py).
Contract of Format of the reference of layer 10.
-/
import Derived.Test.YtekaljeicfjkjaaGreatDoorJ25
import Derived.Test.YtekaljeicfjkjaaGreatDoorJ07
import Derived.Test.YtekaljeicfjkjaaGreatDoorJ01
import Derived.Test.YtekaljeicfjkjaaGreatDoorJ18
import Derived.Test.YtekaljeicfjkjaaGreatDoorJ02
import Derived.BigQuiet
import Derived.Lib.AppendStr
namespace Go.Proofs.YtekaljeicfjkjaaGreatDoor
section
open Go.RowKit
set_option maxHeartbeats 16000000
def oc (s : ByteArray) (k : Int) (n : ByteArray) (v : Int) (g : List Nat) (p : Int) : Array Value :=
 #[.string s, .int .i64 k, .string n, .int .u32 v, .int .u16 ((g.getD 0 0 : Nat) : Int), .int .u16 ((g.getD 1 0 : Nat) : Int), .int .u16 ((g.getD 2 0 : Nat) : Int), .int .u16 ((g.getD 3 0 : Nat) : Int), .int .u16 ((g.getD 4 0 : Nat) : Int), .int .u16 ((g.getD 5 0 : Nat) : Int), .int .u16 ((g.getD 6 0 : Nat) : Int), .int .u16 ((g.getD 7 0 : Nat) : Int), .int .i64 p]
theorem zvw (s : ByteArray) (k : Int) (n : ByteArray) (v : Int) (g : List Nat) (p : Int) : (oc s k n v g p).all (·.oneCell') = true := by
 simp [oc, Value.oneCell']
def Ov.cells (u : Ov) : Array Value := oc (bs u.scheme) u.host.kind (bs u.host.name) (u.host.v4 : Nat) u.host.v6 u.port
def oz : Array Value := oc ⟨#[]⟩ 0 ⟨#[]⟩ 0 z8 0
theorem zvx (w : World) : (zeroValue 36).run Tryz.prog w = .ok (.agg oz) w := (zero_of_info (P := Tryz.prog) (t := 36) (v := .agg oz) (n := 13) (by kernel_rfl)).1 w
theorem zvy : (Tryz.prog.underlying 36).map (fun d => match d with | .struct _ | .array _ _ => true | _ => false) = some true := by kernel_rfl
theorem zvz : (Tryz.prog.info? 36).map (·.size) = some 13 := by kernel_rfl
def zv0 (w : World) (b : Nat) (c : Array Value) : Prop := Row w b 36 c
theorem zv1 {w : World} {b : Nat} {c : Array Value} (h : zv0 w b c) (hc : c.size = 13) : (loadVar 36 ⟨b, 0, none⟩).run Tryz.prog w = .ok (.agg c) w := by
 have hu := zvy
 obtain ⟨d, hd⟩ : ∃ d, Tryz.prog.underlying 36 = some d := by
  cases hx : Tryz.prog.underlying 36 with
  | none => rw [hx] at hu; cases hu
  | some d => exact ⟨d, rfl⟩
 rw [hd] at hu
 cases d <;> first
  | exact run_loadVar_row (P := Tryz.prog) w b _ _ c (0, 0) _ h hd rfl (by rw [hc]; exact zvz)
  | cases hu
theorem zv2 {ops : Array Oper} {rest : List Oper} {o : Oper} {a : Act} {w : World} {Q : Exit -> Act -> World -> Prop} (hw : Region.wanted o (yielded ops a.tmps) = true) (x : Operand) (ho : o.op = .load 36 x)
 (g : Nat) (hx : a.eval x = .pointer (some ⟨g, 0, none⟩)) (c : Array Value) (h0 : zv0 w g c) (hc : c.size = 13)
 (h : wpList Tryz.prog ops Q rest (a.put o.dst (.agg c)) w) : wpList Tryz.prog ops Q (o :: rest) a w := by
 have hl := zv1 h0 hc
 unfold wpList
 rw [if_pos hw]
 left
 unfold Oper.wp
 simp only [execOp, ho, hx, Instr.loadAt, Instr.sureAddr, Sem.run_bind, Sem.run_pure, Result.andThen, hl]
 exact h
theorem zv3 {ops : Array Oper} {rest : List Oper} {o : Oper} {a : Act} {w : World} {Q : Exit -> Act -> World -> Prop} (hw : Region.wanted o (yielded ops a.tmps) = true) (x : Operand) (ho : o.op = .load 26 x)
 (g : Nat) (hx : a.eval x = .pointer (some ⟨g, 1, none⟩)) (c : Array Value) (h0 : zv0 w g c) (H : Array Value) (hH : c.extract 1 12 = H) (hH2 : H.size = 11)
 (h : wpList Tryz.prog ops Q rest (a.put o.dst (.agg H)) w) : wpList Tryz.prog ops Q (o :: rest) a w := by
 have hu := z8x
 obtain ⟨d, hd⟩ : ∃ d, Tryz.prog.underlying 26 = some d := by
  cases hx : Tryz.prog.underlying 26 with
  | none => rw [hx] at hu; cases hu
  | some d => exact ⟨d, rfl⟩
 rw [hd] at hu
 have hr := World.rangeAt_of_block h0 1 11
 rw [show 1 + 11 = 12 from rfl, hH] at hr
 have hl := run_loadVar_mid (P := Tryz.prog) w g 1 26 H.toList d hr hd (by simpa using hu) (by rw [Array.length_toList, hH2]; exact zgn)
 rw [Array.toArray_toList] at hl
 unfold wpList
 rw [if_pos hw]
 left
 unfold Oper.wp
 simp only [execOp, ho, hx, Instr.loadAt, Instr.sureAddr, Sem.run_bind, Sem.run_pure, Result.andThen, hl]
 exact h
theorem zv4 {ops : Array Oper} {rest : List Oper} {o : Oper} {a : Act} {w : World} {Q : Exit -> Act -> World -> Prop} (hgd : o.guard = none) (hd : o.dst = none) (p x : Operand) (ho : o.op = .store 36 p x)
 (g : Nat) (hp : a.eval p = .pointer (some ⟨g, 0, none⟩)) (c' : Array Value) (hx : a.eval x = .agg c') (c : Array Value) (hrow : zv0 w g c) (hc : c.size = 13) (hc' : c'.size = 13) (h1 : c'.all (·.oneCell') = true)
 (h : ∀ w', zv0 w' g c' -> w.grownBy w' (some g) -> wpList Tryz.prog ops Q rest a w') : wpList Tryz.prog ops Q (o :: rest) a w :=
 za0 w hgd hd _ p x ho g hp c' hx _ c hrow (by rw [hc']; exact zvz) (by rw [hc, hc']) h1 h
theorem zv5 {fn : Func} {R : Ending -> World -> Prop} {a : Act} {w : World} (p u : Tmp) (hres : fn.results = #[.cell p 36, .tmp u]) (b : Nat) (hp : a.tmps.getD p undef = .pointer (some ⟨b, 0, none⟩))
 (c : Array Value) (hrow : zv0 w b c) (hc : c.size = 13) (v : Value) (hv : a.tmps.getD u undef = v) (hd : a.defers = []) (hR : R (.returned (.tuple #[.agg c, v])) w) : bodyPost Tryz.prog fn R .ret a w := by
 refine bodyPost_ret (v := .tuple #[.agg c, v]) ?_ hd hR
 rw [results_cell_tmp hres, hp, hv]
 simp [asAddr, Result.andThen, zv1 hrow hc]
structure OC (C : Array Value) (S N : ByteArray) (H : Array Value) (p : Int) : Prop where
 sz : C.size = 13
 one : C.all (·.oneCell') = true
 c0 : C[0]? = some (.string S)
 c2 : C[2]? = some (.string N)
 c12 : C[12]? = some (.int .i64 p)
 hh : C.extract 1 12 = H
theorem zv6 (u : Ov) : OC u.cells (bs u.scheme) (bs u.host.name) u.host.cells u.port :=
 ⟨rfl, zvw _ _ _ _ _ _, rfl, rfl, rfl, rfl⟩
theorem OC.cell {C : Array Value} {S N : ByteArray} {H : Array Value} {p : Int} (h : OC C S N H p) {W : World} {B : Nat} (hr : zv0 W B C) :
 W.cell? ⟨B, 0, none⟩ = some (.string S) /\ W.cell? ⟨B, 2, none⟩ = some (.string N) /\ W.cell? ⟨B, 12, none⟩ = some (.int .i64 p) :=
 ⟨Row.at9 hr h.c0, Row.at9 hr h.c2, Row.at9 hr h.c12⟩
theorem zv7 {ops : Array Oper} {o : Oper} {a : Act} {w : World} {Q : Exit -> Act -> World -> Prop} {K : Act -> World -> Prop} {E : Prop} (hg : o.guard = none) (hop : o.op = .alloc 36)
 (h : ∀ w' g, w.heap.size <= g -> g < w'.heap.size -> zv0 w' g oz -> w.grownBy w' none -> K (a.put o.dst (.pointer (some ⟨g, 0, none⟩))) w') : if Region.wanted o (yielded ops a.tmps) = true then Oper.wp Tryz.prog o a w K Q else E := by
 have hw : Region.wanted o (yielded ops a.tmps) = true := by simp [Region.wanted, hg]
 rw [if_pos hw]
 have := h (w.alloc (.cells oz 36)) w.heap.size jH (by simp) (zat w _ _) (World.grownBy_alloc w _ _)
 unfold Oper.wp
 simp [execOp, hop, Instr.alloc, newVar, newRow, Result.andThen, Value.cells, Oper.upon]
 exact this
theorem zv8 {ops : Array Oper} {o : Oper} {a : Act} {w : World} {Q : Exit -> Act -> World -> Prop} {K : Act -> World -> Prop} {E : Prop} (hg : o.guard = none) (hd : o.dst = none) (p x : Operand) (hop : o.op = .store 36 p x) (g : Nat) (hp : a.eval p = .pointer (some ⟨g, 0, none⟩)) (c' : Array Value) (hx : a.eval x = .agg c')
 (c : Array Value) (hrow : zv0 w g c) (hi : c'.size = 13) (ho : c.size = 13) (h1 : c'.all (·.oneCell') = true)
 (h : ∀ w', zv0 w' g c' -> w.grownBy w' (some g) -> K a w') : if Region.wanted o (yielded ops a.tmps) = true then Oper.wp Tryz.prog o a w K Q else E := by
 have hw : Region.wanted o (yielded ops a.tmps) = true := by simp [Region.wanted, hg]
 rw [if_pos hw]
 have hl := run_storeVar_row (P := Tryz.prog) w g 36 _ c c' hrow (by rw [hi]; exact zvz) (by rw [hi, ho]) h1
 have : K (a.put o.dst undef) (w.setRow g c') := by
  rw [hd]
  exact h (w.setRow g c') (setRow_heap w g c c' _ _ hrow) (zaw w g c')
 unfold Oper.wp
 simp only [execOp, hop, hp, hx, Instr.storeAt, Instr.sureAddr, Sem.run_bind, Sem.run_pure, Result.andThen, hl]
 exact this
theorem zv9 {S : World -> Prop} {ops : Array Oper} {o : Oper} {a : Act} (x : Operand) (ho : o.op = .load 36 x) (hw : Region.wanted o (yielded ops a.tmps) = true) (g : Nat) (hx : a.eval x = .pointer (some ⟨g, 0, none⟩)) (C : Array Value) (hS : ∀ W, S W -> zv0 W g C) (hc : C.size = 13) : YieldsIf Tryz.prog ops S o (.agg C) a :=
 Or.inl ⟨hw, fun W hW => by
  have hl := zv1 (hS W hW) hc
  unfold execOp
  simp only [ho, hx, Instr.loadAt, Instr.sureAddr, Sem.run_bind, Sem.run_pure, Result.andThen_ok, hl]⟩
set_option maxRecDepth 20000 in
theorem zwa (u v : Ov) (hu : u.host.Wf) (hv : v.host.Wf) (W : World) :
 (binOp .eql 36 (.agg u.cells) (.agg v.cells)).run Tryz.prog W = .ok (.bool (eqO u v)) W := by
 obtain ⟨s, ⟨k, n, x, g⟩, p⟩ := u
 obtain ⟨s', ⟨k', n', x', g'⟩, p'⟩ := v
 have hg : g.length = 8 := hu.2.1
 have hg' : g'.length = 8 := hv.2.1
 have h8 := z9a 9996 g g' hg hg' W
 have e0 : eqO (Ov.mk s ⟨k, n, x, g⟩ p) (Ov.mk s' ⟨k', n', x', g'⟩ p') = (decide ((bs s).toList = (bs s').toList) && (decide (k = k') && (decide ((bs n).toList = (bs n').toList) && (decide ((x : Int) = (x' : Int)) && (decide (g = g') && decide (p = p')))))) := by
  unfold eqO
  simp only [zb3, zb0, decide_eq_decide.2 (Int.ofNat_inj (m := x) (n := x'))]
 rw [e0]
 obtain ⟨a0, a1, a2, a3, a4, a5, a6, a7, rfl⟩ := zfu g hg
 obtain ⟨b0, b1, b2, b3, b4, b5, b6, b7, rfl⟩ := zfu g' hg'
 obtain ⟨q, hq⟩ : ∃ q, q = decide ([a0, a1, a2, a3, a4, a5, a6, a7] = [b0, b1, b2, b3, b4, b5, b6, b7]) := ⟨_, rfl⟩
 rw [<- hq] at h8 ⊢
 rw [show av [a0, a1, a2, a3, a4, a5, a6, a7] = #[.int .u16 (a0 : Int), .int .u16 (a1 : Int), .int .u16 (a2 : Int), .int .u16 (a3 : Int), .int .u16 (a4 : Int), .int .u16 (a5 : Int), .int .u16 (a6 : Int), .int .u16 (a7 : Int)] from rfl, show av [b0, b1, b2, b3, b4, b5, b6, b7] = #[.int .u16 (b0 : Int), .int .u16 (b1 : Int), .int .u16 (b2 : Int), .int .u16 (b3 : Int), .int .u16 (b4 : Int), .int .u16 (b5 : Int), .int .u16 (b6 : Int), .int .u16 (b7 : Int)] from rfl] at h8
 rw [show (Ov.mk s ⟨k, n, x, [a0, a1, a2, a3, a4, a5, a6, a7]⟩ p).cells = #[.string (bs s), .int .i64 k, .string (bs n), .int .u32 (x : Nat), .int .u16 (a0 : Int), .int .u16 (a1 : Int), .int .u16 (a2 : Int), .int .u16 (a3 : Int), .int .u16 (a4 : Int), .int .u16 (a5 : Int), .int .u16 (a6 : Int), .int .u16 (a7 : Int), .int .i64 p] from rfl,
  show (Ov.mk s' ⟨k', n', x', [b0, b1, b2, b3, b4, b5, b6, b7]⟩ p').cells = #[.string (bs s'), .int .i64 k', .string (bs n'), .int .u32 (x' : Nat), .int .u16 (b0 : Int), .int .u16 (b1 : Int), .int .u16 (b2 : Int), .int .u16 (b3 : Int), .int .u16 (b4 : Int), .int .u16 (b5 : Int), .int .u16 (b6 : Int), .int .u16 (b7 : Int), .int .i64 p'] from rfl]
 generalize bs s = S1 at *
 generalize bs s' = S2 at *
 generalize bs n = N1 at *
 generalize bs n' = N2 at *
 generalize (x : Int) = X1 at *
 generalize (x' : Int) = X2 at *
 clear hu hv e0 hq hg hg'
 by_cases h1 : S1.toList = S2.toList
 ·by_cases h3 : k = k'
  ·by_cases h4 : N1.toList = N2.toList
   ·by_cases h5 : X1 = X2
    ·cases q
     ·simp [go_sem, h1, h3, h4, h5, h8]
     ·by_cases h6 : p = p' <;> simp [go_sem, h1, h3, h4, h5, h6, h8]
    ·simp [go_sem, h1, h3, h4, h5]
   ·simp [go_sem, h1, h3, h4]
  ·simp [go_sem, h1, h3]
 ·simp [go_sem, h1]
end

section
open Go.RowKit
set_option maxHeartbeats 16000000
theorem z01 (s : ByteArray) (w : World) (hs : s.size <= 1000000000) :
 Calls Tryz.prog 120 #[.string s] w fun e w' => e = .returned (.bool (zbq s)) /\ w = w' := by
 go_enter Tryz.func120, Tryz.ntmps120
 go_wp2
 go_loop [3] (fun i => ∃ k : Nat, k <= s.size /\ i = .int .i64 k /\ ((ls s).take k).all zbe = true) (fun i => s.size - (intOf i).toNat)
 case atStart => exact ⟨0, Nat.zero_le _, rfl, rfl⟩
 case round =>
  obtain ⟨k, hk, rfl, hall⟩ := hrel
  have HA := jL hall
  clear hall
  by_cases hlt : k < s.size
  ·by_cases h1 : (s[k].toNat : Int) < 48
   ·have HF := jL (zbr s k hlt (by simp [zbe, zbc]; omega))
    go_wp2
    go_ret
    exact ⟨zbx HF.out.symm, rfl⟩
   ·by_cases h2 : 57 < (s[k].toNat : Int)
    ·have HF := jL (zbr s k hlt (by simp [zbe, zbc]; omega))
     go_wp2
     go_ret
     exact ⟨zbx HF.out.symm, rfl⟩
    ·have HD : Hid (zbe s[k] = true) := by show _ = _; simp [zbe, zbc]; omega
     go_wp2
     go_round
     case rel => exact ⟨k + 1, by omega, by go_num, zbt zbe s k hlt HA.out HD.out⟩
     case measure => simp [intOf]; omega
  ·obtain rfl : k = s.size := by omega
   have HF := jL (zbs s HA.out)
   go_wp2
   go_ret
   exact ⟨zbx (by rw [HF.out, zb3]), rfl⟩
end

section
open Go.RowKit
set_option maxHeartbeats 16000000
theorem zoi (c : UInt8) (w : World) :
 Calls Tryz.prog 156 #[.int .u8 (c.toNat : Int)] w fun e w' => e = .returned (.int .i64 (zph c : Nat)) /\ w = w' := by
 have hl := zce c
 obtain ⟨y, hy⟩ : ∃ y : Int, y = (c.toNat : Int) := ⟨_, rfl⟩
 have hy0 : 0 <= y := by omega
 rw [<- hy] at hl ⊢
 have HY := jL hy
 clear hy
 by_cases h1 : (48 : Int) <= y /\ y <= 57
 ·obtain ⟨h1, h2⟩ := h1
  have HV : Hid (y - 48 = (zph c : Nat)) := by show _ = _; have := HY.out; unfold zph; rw [if_pos (by omega)]; omega
  go_enter Tryz.func156, Tryz.ntmps156
  go_wp2
  go_ret
  exact ⟨zby HV.out, rfl⟩
 ·by_cases h2 : (97 : Int) <= y /\ y <= 102
  ·obtain ⟨h2, h3⟩ := h2
   have h4 : ¬ y <= 57 := by omega
   have h5 : (48 : Int) <= y := by omega
   have HV : Hid (y - 97 + 10 = (zph c : Nat)) := by show _ = _; have := HY.out; unfold zph; rw [if_neg (by omega), if_pos (by omega)]; omega
   clear h1
   go_enter Tryz.func156, Tryz.ntmps156
   go_wp2
   go_ret
   exact ⟨zby HV.out, rfl⟩
  ·by_cases h3 : (65 : Int) <= y /\ y <= 70
   ·obtain ⟨h3, h4⟩ := h3
    have h5 : ¬ y <= 57 := by omega
    have h6 : (48 : Int) <= y := by omega
    have h7 : ¬ (97 : Int) <= y := by omega
    have HV : Hid (y - 65 + 10 = (zph c : Nat)) := by show _ = _; have := HY.out; unfold zph; rw [if_neg (by omega), if_neg (by omega), if_pos (by omega)]; omega
    clear h1 h2
    go_enter Tryz.func156, Tryz.ntmps156
    go_wp2
    go_ret
    exact ⟨zby HV.out, rfl⟩
   ·have HV : Hid ((99 : Int) = (zph c : Nat)) := by show _ = _; have := HY.out; unfold zph; rw [if_neg (by omega), if_neg (by omega), if_neg (by omega)]; rfl
    by_cases g1 : (48 : Int) <= y
    ·have g2 : ¬ y <= 57 := fun h => h1 ⟨g1, h⟩
     by_cases g3 : (65 : Int) <= y
     ·have g4 : ¬ y <= 70 := fun h => h3 ⟨g3, h⟩
      by_cases g5 : (97 : Int) <= y
      ·have g6 : ¬ y <= 102 := fun h => h2 ⟨g5, h⟩
       clear h1 h2 h3
       go_enter Tryz.func156, Tryz.ntmps156
       go_wp2
       go_ret
       exact ⟨zby HV.out, rfl⟩
      ·clear h1 h2 h3
       go_enter Tryz.func156, Tryz.ntmps156
       go_wp2
       go_ret
       exact ⟨zby HV.out, rfl⟩
     ·have g5 : ¬ (97 : Int) <= y := by omega
      clear h1 h2 h3
      go_enter Tryz.func156, Tryz.ntmps156
      go_wp2
      go_ret
      exact ⟨zby HV.out, rfl⟩
    ·have g3 : ¬ (65 : Int) <= y := by omega
     have g5 : ¬ (97 : Int) <= y := by omega
     clear h1 h2 h3
     go_enter Tryz.func156, Tryz.ntmps156
     go_wp2
     go_ret
     exact ⟨zby HV.out, rfl⟩
theorem zoj (s : ByteArray) (w : World) (hs : s.size <= 1000000000) :
 Calls Tryz.prog 119 #[.string s] w (z24 (zpg (ls s)) w) := by
 have hspl := z1h s 46 w hs
 have hpos := z2o 46 (ls s)
 have hlen := z2q 46 (ls s)
 rw [zb4] at hlen
 have HP : Hid (zpg (ls s) = if 1 < (z2m 46 (ls s)).length /\ (z2m 46 (ls s)).getLast? = some [] then (z2m 46 (ls s)).dropLast else z2m 46 (ls s)) := jL rfl
 have HLAST := jL (z27 hpos)
 generalize z2m 46 (ls s) = P at *
 obtain ⟨n, hn⟩ : ∃ n, n = P.length := ⟨_, rfl⟩
 go_enter Tryz.func119, Tryz.ntmps119
 go_wp2_with fail
 refine hspl.mono ?_
 rintro e w1 ⟨v, m, rfl, hown, hb⟩
 obtain ⟨A, c, rfl, hh, hmc⟩ := Has.of_own hown
 obtain rfl : m = n := by have := hh.1; rw [z3l] at this; omega
 clear hspl hown
 obtain ⟨b, off, rfl, hcell⟩ := z25 hh (m - 1) (by omega)
 by_cases h1 : 1 < m
 ·have hd : decide ((1 : Int) < (m : Int)) = true := jT (by omega)
  have hm1 : (m : Int) - 1 = ((m - 1 : Nat) : Int) := by omega
  obtain ⟨k, hk⟩ : ∃ k, k = m - 1 := ⟨_, rfl⟩
  rw [<- hk] at hcell hm1
  have hkm : k < m := by omega
  have hkb : k <= 1000000001 := by omega
  have hmb : m <= 1000000001 := by omega
  have hkc : k <= c := by omega
  have hbe := z28 (P.getD k [])
  obtain ⟨X, hX⟩ : ∃ X, X = bs (P.getD k []) := ⟨_, rfl⟩
  rw [<- hX] at hbe hcell
  clear hX
  by_cases h2 : P.getD k [] = []
  ·have hlast : P.getLast? = some [] := by
    rw [HLAST.out, <- hn, <- hk]
    rw [List.getD_eq_getElem?_getD, List.getElem?_eq_getElem (by omega), Option.getD_some] at h2 ⊢
    exact h2
   have HQ : Hid (zpg (ls s) = P.take k) := by
    show _ = _
    rw [HP.out, if_pos ⟨by omega, hlast⟩, List.dropLast_eq_take, <- hn, hk]
   rw [jT h2] at hbe
   have HN := jL hn
   have hh2 := hh.take k (by omega)
   have HK := jL hk
   clear hn hk h2 hlast
   go_wp2
   go_ret
   have hl : (P.take k).length = k := by have := HN.out; have := HK.out; simp; omega
   refine ⟨some ⟨b, off, none⟩, c, ?_, ?_, ?_, hb⟩
   ·rw [HQ.out, hl]; rfl
   ·rw [HQ.out, hl]; exact hkc
   ·rw [HQ.out, hl]
    have e : wv (P.take k) = (wv P).take k := by simp [wv, List.map_take]
    rw [e]; exact hh2
  ·have hlast : ¬ P.getLast? = some [] := by
    rw [HLAST.out, <- hn, <- hk]
    rw [List.getD_eq_getElem?_getD, List.getElem?_eq_getElem (by omega), Option.getD_some] at h2 ⊢
    exact h2
   have HQ : Hid (zpg (ls s) = P) := by
    show _ = _
    rw [HP.out, if_neg (fun h => hlast h.2)]
   rw [jF h2] at hbe
   have HN := jL hn
   clear hn hk h2 hlast
   go_wp2
   go_ret
   refine ⟨some ⟨b, off, none⟩, c, ?_, ?_, ?_, hb⟩
   ·rw [HQ.out, <- HN.out]; rfl
   ·rw [HQ.out, <- HN.out]; exact hmc
   ·rw [HQ.out, <- HN.out]; exact hh
 ·have hd : decide ((1 : Int) < (m : Int)) = false := jF (by omega)
  have HQ : Hid (zpg (ls s) = P) := by
   show _ = _
   rw [HP.out, if_neg (fun h => h1 (by omega))]
  have HN := jL hn
  clear hn
  go_wp2
  go_ret
  refine ⟨some ⟨b, off, none⟩, c, ?_, ?_, ?_, hb⟩
  ·rw [HQ.out, <- HN.out]; rfl
  ·rw [HQ.out, <- HN.out]; exact hmc
  ·rw [HQ.out, <- HN.out]; exact hh
end

section
open Go.RowKit
set_option maxHeartbeats 16000000
def zok (x : Nat) : Nat := min x 1099511627776
theorem zol (x B d : Nat) (hB : 0 < B) : zok (zok x * B + d) = zok (x * B + d) := by
 unfold zok
 rcases Nat.lt_or_ge x 1099511627776 with h | h
 ·rw [Nat.min_eq_left (Nat.le_of_lt h)]
 ·rw [Nat.min_eq_right h]
  have h1 : 1099511627776 * 1 <= 1099511627776 * B := Nat.mul_le_mul_left _ hB
  have h2 : 1099511627776 * B <= x * B := Nat.mul_le_mul_right _ h
  omega
theorem zom (x : Nat) : zok x <= 1099511627776 := by unfold zok; omega
theorem zon (x b : Nat) (hb : b <= 1099511627776) : zok x < b ↔ x < b := by unfold zok; omega
theorem zoo (x : Nat) (h : x <= 1099511627776) : zok x = x := by unfold zok; omega
def nV (l : List UInt8) : Int := (zok ((zpl l).getD 0) : Nat)
def nK (l : List UInt8) : Bool := (zpl l).isSome
theorem zop {l r : List UInt8} {B : Nat} (hl : l ≠ []) (hb : zpk l = (B, r)) (ha : r.all (fun c => decide (zph c < B)) = true) : nV l = (zok (zpi B 0 r) : Nat) /\ nK l = true := by
 unfold nV nK zpl
 rw [if_neg hl, hb, if_pos ha]
 exact ⟨rfl, rfl⟩
theorem zoq {l r : List UInt8} {B : Nat} (hl : l ≠ []) (hb : zpk l = (B, r)) (ha : ¬ r.all (fun c => decide (zph c < B)) = true) : nV l = 0 /\ nK l = false := by
 unfold nV nK zpl
 rw [if_neg hl, hb, if_neg ha]
 exact ⟨rfl, rfl⟩
theorem zor (B : Nat) (t : ByteArray) (k : Nat) (h : k < t.size) : zpi B 0 ((ls t).take (k + 1)) = zpi B 0 ((ls t).take k) * B + zph t[k] := by
 rw [zca t k h, zpj]; rfl
theorem zos {p : UInt8 -> Bool} (t : ByteArray) (k : Nat) (h : k < t.size) (hp : p t[k] = false) : ¬ (ls t).all p = true := by
 rw [List.all_eq_true]
 intro hall
 have hm : t[k] ∈ ls t := by
  have hk : k < (ls t).length := by rw [zb4]; exact h
  have := List.getElem_mem hk
  rwa [zb8 t k h] at this
 rw [hall _ hm] at hp
 cases hp
theorem zot {s : ByteArray} (h : 0 < s.size) : ls s ≠ [] := by
 intro e
 have := zb4 s
 rw [e] at this
 simp at this
 omega
theorem zou (s : ByteArray) (h : 2 <= s.size) : ls s = s[0] :: s[1] :: (ls s).drop 2 := by
 have e := z1d s 0 (by omega)
 rw [List.drop_zero] at e
 rw [e, z1d s 1 (by omega)]
 simp
theorem zov (s : ByteArray) (k : Nat) : ls (s.extract k s.size) = (ls s).drop k := by
 rw [zbw, zb0]
 unfold sub
 exact List.take_of_length_le (by rw [List.length_drop, zb4]; omega)
theorem zow (s : ByteArray) (w : World) (hs : s.size <= 1000000000) :
 Calls Tryz.prog 121 #[.string s] w fun e w' => e = .returned (.tuple #[.int .i64 (nV (ls s)), .bool (nK (ls s))]) /\ Below w.heap.size w w' := by
 by_cases h0 : s.size = 0
 ·have hbe : (s.toList == ([] : List UInt8)) = true := by rw [zb3]; have := zb4 s; cases hx : ls s with
   | nil => rfl
   | cons c r => rw [hx] at this; simp at this; omega
  have HN : Hid (nV (ls s) = 0 /\ nK (ls s) = false) := by
   have : ls s = [] := List.eq_nil_of_length_eq_zero (by rw [zb4]; exact h0)
   rw [this]
   exact jL ⟨rfl, rfl⟩
  clear h0
  go_enter Tryz.func121, Tryz.ntmps121
  go_wp2
  go_ret2
  exact ⟨by rw [HN.out.1, HN.out.2]; rfl, Below.refl _ _⟩
 ·have hne := zot (s := s) (by omega)
  have hbe : (s.toList == ([] : List UInt8)) = false := by rw [zb3]; cases hx : ls s with
   | nil => exact absurd hx hne
   | cons c r => rfl
  have HNE := jL hne
  clear hne
  by_cases h2 : 2 <= s.size
  ·have h2i : (2 : Int) <= (s.size : Int) := by omega
   have h2d : decide ((2 : Int) <= (s.size : Int)) = true := jT h2i
   have hl0 : 0 < s.size := by omega
   have hl1 : 1 < s.size := by omega
   have HTWO := jL (zou s h2)
   by_cases hz : s[0] = 48
   ·have hq0 : ((s[0].toNat : Int) == 48) = true := by rw [hz]; rfl
    have HZ0 := jL hz
    clear hz
    by_cases hx : s[1] = 120 \/ s[1] = 88
    ·have HB0 : Hid (zpk (ls s) = (16, (ls s).drop 2)) := by
      show _ = _
      rw [HTWO.out, HZ0.out]
      exact zpy _ _ hx
     rcases hx with hx | hx
     ·have hq1 : ((s[1].toNat : Int) == 120) = true := by rw [hx]; rfl
      clear hx
      go_enter Tryz.func121, Tryz.ntmps121
      go_wp2
      go_quiet (fail)
      have HTS : Hid ((s.extract 2 s.size).size <= 1000000000) := by show _ <= _; rw [ByteArray.size_extract]; omega
      have HE := jL (zov s 2)
      have HB : Hid (zpk (ls s) = (16, ls (s.extract 2 s.size))) := by show _ = _; rw [HB0.out, HE.out]
      generalize s.extract 2 s.size = t at *
      go_wp2
      have hts : t.size <= 1000000000 := HTS.out
      go_loop [5, 6] (fun n i => ∃ (k : Nat) (z : Int), k <= t.size /\ i = .int .i64 k /\ n = .int .i64 z /\ Hid (z = (zok (zpi 16 0 ((ls t).take k)) : Nat)) /\ Hid (((ls t).take k).all (fun c => decide (zph c < 16)) = true)) (fun _ i => t.size - (intOf i).toNat)
      case atStart => exact ⟨0, 0, Nat.zero_le _, rfl, rfl, jL rfl, jL rfl⟩
      case round =>
       obtain ⟨k, z, hk, rfl, rfl, HZ, HALL⟩ := hrel
       by_cases hlt : k < t.size
       ·have hd := zoi t[k]
        have hz1 : 0 <= z := by rw [HZ.out]; omega
        have hz2 : z <= 1099511627776 := by rw [HZ.out]; have := zom (zpi 16 0 ((ls t).take k)); omega
        obtain ⟨d, hde⟩ : ∃ d : Int, d = (zph t[k] : Nat) := ⟨_, rfl⟩
        have hd0 : 0 <= d := by omega
        rw [<- hde] at hd
        by_cases hdb : d < 16
        ·have hge : ¬ (16 : Int) <= d := by omega
         have hdd : decide ((16 : Int) <= d) = false := jF hge
         obtain ⟨z2, hz3⟩ : ∃ z2, min (z * 16 + d) 1099511627776 = z2 := ⟨_, rfl⟩
         have hmin : ∀ (W : World) ts ty, (Builtin.min_ ts ty #[.int .i64 (z * 16 + d), .int .i64 1099511627776]).run Tryz.prog W = .ok (.int .i64 z2) W := fun W ts ty => zt6 W ts ty _ _ _ hz3
         have HZ2 : Hid (z2 = (zok (zpi 16 0 ((ls t).take (k + 1))) : Nat)) := by
          show _ = _
          have e := zol (zpi 16 0 ((ls t).take k)) 16 (zph t[k]) (by decide)
          rw [zor 16 t k hlt, <- e, <- hz3, HZ.out, hde]
          unfold zok
          omega
         have HA2 : Hid (((ls t).take (k + 1)).all (fun c => decide (zph c < 16)) = true) := by
          refine jL (zbt _ t k hlt HALL.out ?_)
          exact jT (by omega)
         clear hz3 hde
         go_wp2_with (go_at_call 156; refine (hd _).mono ?_; rintro e w' ⟨rfl, rfl⟩)
         go_round
         case rel => exact ⟨k + 1, z2, by omega, by go_num, rfl, HZ2, HA2⟩
         case measure => simp [intOf]; omega
        ·have hge : (16 : Int) <= d := by omega
         have hdd : decide ((16 : Int) <= d) = true := jT hge
         have HN := jL (zoq HNE.out HB.out (zos t k hlt (jF (by omega))))
         clear hde
         go_wp2_with (go_at_call 156; refine (hd _).mono ?_; rintro e w' ⟨rfl, rfl⟩)
         go_ret2
         exact ⟨by rw [HN.out.1, HN.out.2]; rfl, by first | exact below_drewN (Below.refl _ _) _ | exact below_drewN _ _⟩
       ·obtain rfl : k = t.size := by omega
        have HN : Hid (nV (ls s) = z /\ nK (ls s) = true) := by
         have hz := HZ.out
         have ha := HALL.out
         rw [zcb] at hz ha
         have := zop HNE.out HB.out ha
         rw [hz]
         exact jL this
        go_wp2
        go_ret2
        exact ⟨by rw [HN.out.1, HN.out.2]; rfl, by first | exact below_drewN (Below.refl _ _) _ | exact below_drewN _ _⟩
     ·have hq1 : ((s[1].toNat : Int) == 120) = false := by rw [hx]; rfl
      have hq2 : ((s[1].toNat : Int) == 88) = true := by rw [hx]; rfl
      clear hx
      go_enter Tryz.func121, Tryz.ntmps121
      go_wp2
      go_quiet (fail)
      have HTS : Hid ((s.extract 2 s.size).size <= 1000000000) := by show _ <= _; rw [ByteArray.size_extract]; omega
      have HE := jL (zov s 2)
      have HB : Hid (zpk (ls s) = (16, ls (s.extract 2 s.size))) := by show _ = _; rw [HB0.out, HE.out]
      generalize s.extract 2 s.size = t at *
      go_wp2
      have hts : t.size <= 1000000000 := HTS.out
      go_loop [5, 6] (fun n i => ∃ (k : Nat) (z : Int), k <= t.size /\ i = .int .i64 k /\ n = .int .i64 z /\ Hid (z = (zok (zpi 16 0 ((ls t).take k)) : Nat)) /\ Hid (((ls t).take k).all (fun c => decide (zph c < 16)) = true)) (fun _ i => t.size - (intOf i).toNat)
      case atStart => exact ⟨0, 0, Nat.zero_le _, rfl, rfl, jL rfl, jL rfl⟩
      case round =>
       obtain ⟨k, z, hk, rfl, rfl, HZ, HALL⟩ := hrel
       by_cases hlt : k < t.size
       ·have hd := zoi t[k]
        have hz1 : 0 <= z := by rw [HZ.out]; omega
        have hz2 : z <= 1099511627776 := by rw [HZ.out]; have := zom (zpi 16 0 ((ls t).take k)); omega
        obtain ⟨d, hde⟩ : ∃ d : Int, d = (zph t[k] : Nat) := ⟨_, rfl⟩
        have hd0 : 0 <= d := by omega
        rw [<- hde] at hd
        by_cases hdb : d < 16
        ·have hge : ¬ (16 : Int) <= d := by omega
         have hdd : decide ((16 : Int) <= d) = false := jF hge
         obtain ⟨z2, hz3⟩ : ∃ z2, min (z * 16 + d) 1099511627776 = z2 := ⟨_, rfl⟩
         have hmin : ∀ (W : World) ts ty, (Builtin.min_ ts ty #[.int .i64 (z * 16 + d), .int .i64 1099511627776]).run Tryz.prog W = .ok (.int .i64 z2) W := fun W ts ty => zt6 W ts ty _ _ _ hz3
         have HZ2 : Hid (z2 = (zok (zpi 16 0 ((ls t).take (k + 1))) : Nat)) := by
          show _ = _
          have e := zol (zpi 16 0 ((ls t).take k)) 16 (zph t[k]) (by decide)
          rw [zor 16 t k hlt, <- e, <- hz3, HZ.out, hde]
          unfold zok
          omega
         have HA2 : Hid (((ls t).take (k + 1)).all (fun c => decide (zph c < 16)) = true) := by
          refine jL (zbt _ t k hlt HALL.out ?_)
          exact jT (by omega)
         clear hz3 hde
         go_wp2_with (go_at_call 156; refine (hd _).mono ?_; rintro e w' ⟨rfl, rfl⟩)
         go_round
         case rel => exact ⟨k + 1, z2, by omega, by go_num, rfl, HZ2, HA2⟩
         case measure => simp [intOf]; omega
        ·have hge : (16 : Int) <= d := by omega
         have hdd : decide ((16 : Int) <= d) = true := jT hge
         have HN := jL (zoq HNE.out HB.out (zos t k hlt (jF (by omega))))
         clear hde
         go_wp2_with (go_at_call 156; refine (hd _).mono ?_; rintro e w' ⟨rfl, rfl⟩)
         go_ret2
         exact ⟨by rw [HN.out.1, HN.out.2]; rfl, by first | exact below_drewN (Below.refl _ _) _ | exact below_drewN _ _⟩
       ·obtain rfl : k = t.size := by omega
        have HN : Hid (nV (ls s) = z /\ nK (ls s) = true) := by
         have hz := HZ.out
         have ha := HALL.out
         rw [zcb] at hz ha
         have := zop HNE.out HB.out ha
         rw [hz]
         exact jL this
        go_wp2
        go_ret2
        exact ⟨by rw [HN.out.1, HN.out.2]; rfl, by first | exact below_drewN (Below.refl _ _) _ | exact below_drewN _ _⟩
    ·have HB0 : Hid (zpk (ls s) = (8, (ls s).drop 1)) := by
      show _ = _
      rw [HTWO.out, HZ0.out]
      exact zpz _ _ hx
     have hq1 : ((s[1].toNat : Int) == 120) = false := by
      rw [beq_eq_false_iff_ne]
      exact fun e => hx (.inl (UInt8.toNat_inj.1 (by rw [show (120 : UInt8).toNat = 120 from rfl]; omega)))
     have hq2 : ((s[1].toNat : Int) == 88) = false := by
      rw [beq_eq_false_iff_ne]
      exact fun e => hx (.inr (UInt8.toNat_inj.1 (by rw [show (88 : UInt8).toNat = 88 from rfl]; omega)))
     clear hx
     go_enter Tryz.func121, Tryz.ntmps121
     go_wp2
     go_quiet (fail)
     have HTS : Hid ((s.extract 1 s.size).size <= 1000000000) := by show _ <= _; rw [ByteArray.size_extract]; omega
     have HE := jL (zov s 1)
     have HB : Hid (zpk (ls s) = (8, ls (s.extract 1 s.size))) := by show _ = _; rw [HB0.out, HE.out]
     generalize s.extract 1 s.size = t at *
     go_wp2
     have hts : t.size <= 1000000000 := HTS.out
     go_loop [5, 6] (fun n i => ∃ (k : Nat) (z : Int), k <= t.size /\ i = .int .i64 k /\ n = .int .i64 z /\ Hid (z = (zok (zpi 8 0 ((ls t).take k)) : Nat)) /\ Hid (((ls t).take k).all (fun c => decide (zph c < 8)) = true)) (fun _ i => t.size - (intOf i).toNat)
     case atStart => exact ⟨0, 0, Nat.zero_le _, rfl, rfl, jL rfl, jL rfl⟩
     case round =>
      obtain ⟨k, z, hk, rfl, rfl, HZ, HALL⟩ := hrel
      by_cases hlt : k < t.size
      ·have hd := zoi t[k]
       have hz1 : 0 <= z := by rw [HZ.out]; omega
       have hz2 : z <= 1099511627776 := by rw [HZ.out]; have := zom (zpi 8 0 ((ls t).take k)); omega
       obtain ⟨d, hde⟩ : ∃ d : Int, d = (zph t[k] : Nat) := ⟨_, rfl⟩
       have hd0 : 0 <= d := by omega
       rw [<- hde] at hd
       by_cases hdb : d < 8
       ·have hge : ¬ (8 : Int) <= d := by omega
        have hdd : decide ((8 : Int) <= d) = false := jF hge
        obtain ⟨z2, hz3⟩ : ∃ z2, min (z * 8 + d) 1099511627776 = z2 := ⟨_, rfl⟩
        have hmin : ∀ (W : World) ts ty, (Builtin.min_ ts ty #[.int .i64 (z * 8 + d), .int .i64 1099511627776]).run Tryz.prog W = .ok (.int .i64 z2) W := fun W ts ty => zt6 W ts ty _ _ _ hz3
        have HZ2 : Hid (z2 = (zok (zpi 8 0 ((ls t).take (k + 1))) : Nat)) := by
         show _ = _
         have e := zol (zpi 8 0 ((ls t).take k)) 8 (zph t[k]) (by decide)
         rw [zor 8 t k hlt, <- e, <- hz3, HZ.out, hde]
         unfold zok
         omega
        have HA2 : Hid (((ls t).take (k + 1)).all (fun c => decide (zph c < 8)) = true) := by
         refine jL (zbt _ t k hlt HALL.out ?_)
         exact jT (by omega)
        clear hz3 hde
        go_wp2_with (go_at_call 156; refine (hd _).mono ?_; rintro e w' ⟨rfl, rfl⟩)
        go_round
        case rel => exact ⟨k + 1, z2, by omega, by go_num, rfl, HZ2, HA2⟩
        case measure => simp [intOf]; omega
       ·have hge : (8 : Int) <= d := by omega
        have hdd : decide ((8 : Int) <= d) = true := jT hge
        have HN := jL (zoq HNE.out HB.out (zos t k hlt (jF (by omega))))
        clear hde
        go_wp2_with (go_at_call 156; refine (hd _).mono ?_; rintro e w' ⟨rfl, rfl⟩)
        go_ret2
        exact ⟨by rw [HN.out.1, HN.out.2]; rfl, by first | exact below_drewN (Below.refl _ _) _ | exact below_drewN _ _⟩
      ·obtain rfl : k = t.size := by omega
       have HN : Hid (nV (ls s) = z /\ nK (ls s) = true) := by
        have hz := HZ.out
        have ha := HALL.out
        rw [zcb] at hz ha
        have := zop HNE.out HB.out ha
        rw [hz]
        exact jL this
       go_wp2
       go_ret2
       exact ⟨by rw [HN.out.1, HN.out.2]; rfl, by first | exact below_drewN (Below.refl _ _) _ | exact below_drewN _ _⟩
   ·have hq0 : ((s[0].toNat : Int) == 48) = false := by
     rw [beq_eq_false_iff_ne]
     exact fun e => hz (UInt8.toNat_inj.1 (by rw [show (48 : UInt8).toNat = 48 from rfl]; omega))
    have HB : Hid (zpk (ls s) = (10, ls s)) := by
     refine jL (zpx _ (.inl ?_))
     rw [HTWO.out]
     simpa using hz
    clear hz
    have HTS := jL hs
    go_enter Tryz.func121, Tryz.ntmps121
    go_wp2
    have HWW := Below.refl w.heap.size w
    have hts : s.size <= 1000000000 := HTS.out
    go_loop [5, 6] (fun n i => ∃ (k : Nat) (z : Int), k <= s.size /\ i = .int .i64 k /\ n = .int .i64 z /\ Hid (z = (zok (zpi 10 0 ((ls s).take k)) : Nat)) /\ Hid (((ls s).take k).all (fun c => decide (zph c < 10)) = true)) (fun _ i => s.size - (intOf i).toNat)
    case atStart => exact ⟨0, 0, Nat.zero_le _, rfl, rfl, jL rfl, jL rfl⟩
    case round =>
     obtain ⟨k, z, hk, rfl, rfl, HZ, HALL⟩ := hrel
     by_cases hlt : k < s.size
     ·have hd := zoi s[k]
      have hz1 : 0 <= z := by rw [HZ.out]; omega
      have hz2 : z <= 1099511627776 := by rw [HZ.out]; have := zom (zpi 10 0 ((ls s).take k)); omega
      obtain ⟨d, hde⟩ : ∃ d : Int, d = (zph s[k] : Nat) := ⟨_, rfl⟩
      have hd0 : 0 <= d := by omega
      rw [<- hde] at hd
      by_cases hdb : d < 10
      ·have hge : ¬ (10 : Int) <= d := by omega
       have hdd : decide ((10 : Int) <= d) = false := jF hge
       obtain ⟨z2, hz3⟩ : ∃ z2, min (z * 10 + d) 1099511627776 = z2 := ⟨_, rfl⟩
       have hmin : ∀ (W : World) ts ty, (Builtin.min_ ts ty #[.int .i64 (z * 10 + d), .int .i64 1099511627776]).run Tryz.prog W = .ok (.int .i64 z2) W := fun W ts ty => zt6 W ts ty _ _ _ hz3
       have HZ2 : Hid (z2 = (zok (zpi 10 0 ((ls s).take (k + 1))) : Nat)) := by
        show _ = _
        have e := zol (zpi 10 0 ((ls s).take k)) 10 (zph s[k]) (by decide)
        rw [zor 10 s k hlt, <- e, <- hz3, HZ.out, hde]
        unfold zok
        omega
       have HA2 : Hid (((ls s).take (k + 1)).all (fun c => decide (zph c < 10)) = true) := by
        refine jL (zbt _ s k hlt HALL.out ?_)
        exact jT (by omega)
       clear hz3 hde
       go_wp2_with (go_at_call 156; refine (hd _).mono ?_; rintro e w' ⟨rfl, rfl⟩)
       go_round
       case rel => exact ⟨k + 1, z2, by omega, by go_num, rfl, HZ2, HA2⟩
       case measure => simp [intOf]; omega
      ·have hge : (10 : Int) <= d := by omega
       have hdd : decide ((10 : Int) <= d) = true := jT hge
       have HN := jL (zoq HNE.out HB.out (zos s k hlt (jF (by omega))))
       clear hde
       go_wp2_with (go_at_call 156; refine (hd _).mono ?_; rintro e w' ⟨rfl, rfl⟩)
       go_ret2
       exact ⟨by rw [HN.out.1, HN.out.2]; rfl, HWW⟩
     ·obtain rfl : k = s.size := by omega
      have HN : Hid (nV (ls s) = z /\ nK (ls s) = true) := by
       have hz := HZ.out
       have ha := HALL.out
       rw [zcb] at hz ha
       have := zop HNE.out HB.out ha
       rw [hz]
       exact jL this
      go_wp2
      go_ret2
      exact ⟨by rw [HN.out.1, HN.out.2]; rfl, HWW⟩
  ·have h2d : decide ((2 : Int) <= (s.size : Int)) = false := jF (by omega)
   have HB : Hid (zpk (ls s) = (10, ls s)) := jL (zpx _ (.inr (by rw [zb4]; omega)))
   have HTS := jL hs
   go_enter Tryz.func121, Tryz.ntmps121
   go_wp2
   have HWW := Below.refl w.heap.size w
   have hts : s.size <= 1000000000 := HTS.out
   go_loop [5, 6] (fun n i => ∃ (k : Nat) (z : Int), k <= s.size /\ i = .int .i64 k /\ n = .int .i64 z /\ Hid (z = (zok (zpi 10 0 ((ls s).take k)) : Nat)) /\ Hid (((ls s).take k).all (fun c => decide (zph c < 10)) = true)) (fun _ i => s.size - (intOf i).toNat)
   case atStart => exact ⟨0, 0, Nat.zero_le _, rfl, rfl, jL rfl, jL rfl⟩
   case round =>
    obtain ⟨k, z, hk, rfl, rfl, HZ, HALL⟩ := hrel
    by_cases hlt : k < s.size
    ·have hd := zoi s[k]
     have hz1 : 0 <= z := by rw [HZ.out]; omega
     have hz2 : z <= 1099511627776 := by rw [HZ.out]; have := zom (zpi 10 0 ((ls s).take k)); omega
     obtain ⟨d, hde⟩ : ∃ d : Int, d = (zph s[k] : Nat) := ⟨_, rfl⟩
     have hd0 : 0 <= d := by omega
     rw [<- hde] at hd
     by_cases hdb : d < 10
     ·have hge : ¬ (10 : Int) <= d := by omega
      have hdd : decide ((10 : Int) <= d) = false := jF hge
      obtain ⟨z2, hz3⟩ : ∃ z2, min (z * 10 + d) 1099511627776 = z2 := ⟨_, rfl⟩
      have hmin : ∀ (W : World) ts ty, (Builtin.min_ ts ty #[.int .i64 (z * 10 + d), .int .i64 1099511627776]).run Tryz.prog W = .ok (.int .i64 z2) W := fun W ts ty => zt6 W ts ty _ _ _ hz3
      have HZ2 : Hid (z2 = (zok (zpi 10 0 ((ls s).take (k + 1))) : Nat)) := by
       show _ = _
       have e := zol (zpi 10 0 ((ls s).take k)) 10 (zph s[k]) (by decide)
       rw [zor 10 s k hlt, <- e, <- hz3, HZ.out, hde]
       unfold zok
       omega
      have HA2 : Hid (((ls s).take (k + 1)).all (fun c => decide (zph c < 10)) = true) := by
       refine jL (zbt _ s k hlt HALL.out ?_)
       exact jT (by omega)
      clear hz3 hde
      go_wp2_with (go_at_call 156; refine (hd _).mono ?_; rintro e w' ⟨rfl, rfl⟩)
      go_round
      case rel => exact ⟨k + 1, z2, by omega, by go_num, rfl, HZ2, HA2⟩
      case measure => simp [intOf]; omega
     ·have hge : (10 : Int) <= d := by omega
      have hdd : decide ((10 : Int) <= d) = true := jT hge
      have HN := jL (zoq HNE.out HB.out (zos s k hlt (jF (by omega))))
      clear hde
      go_wp2_with (go_at_call 156; refine (hd _).mono ?_; rintro e w' ⟨rfl, rfl⟩)
      go_ret2
      exact ⟨by rw [HN.out.1, HN.out.2]; rfl, HWW⟩
    ·obtain rfl : k = s.size := by omega
     have HN : Hid (nV (ls s) = z /\ nK (ls s) = true) := by
      have hz := HZ.out
      have ha := HALL.out
      rw [zcb] at hz ha
      have := zop HNE.out HB.out ha
      rw [hz]
      exact jL this
     go_wp2
     go_ret2
     exact ⟨by rw [HN.out.1, HN.out.2]; rfl, HWW⟩
end

section
open Go.RowKit
set_option maxHeartbeats 16000000
end

end Go.Proofs.YtekaljeicfjkjaaGreatDoor
