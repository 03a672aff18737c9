/-
append of a slice to a row that the call itself has made; the slices of bytes that came in. No program.
Types of bytes and strings, and string(b) of a slice of bytes; no function of the program.
Types of lists of strings; no function of the program.
Lists of strings in memory: no function of the program.
Contracts of hex, double and hexText of the reference of layer 11 (written by tools/gen-I61.py).
Steps of a region that draws its order, whose operations are guarded: the guard decided by computation. No program.
Contract of FromInt of the reference of layer 1.
Contract of Split of the reference of layer 1.
-/
import Derived.Test.YtekaljeicfjkjaaGreatDoorK00
import Derived.Laws.AppendOwnNone
import Derived.OpenShut
import Derived.Deep.WholeRow
import Derived.Test.YtekaljeicfjkjaaGreatDoorRows
import Derived.Test.YtekaljeicfjkjaaGreatDoorK01
import Derived.Test.YtekaljeicfjkjaaGreatDoorK03
import Derived.BigQuiet
import Derived.StillTailTactics
import Derived.Test.YtekaljeicfjkjaaGreatDoorK02
import Derived.Deep.RegionWith
namespace Go.Proofs.YtekaljeicfjkjaaGreatDoor
section
open Go.RowKit
set_option maxHeartbeats 16000000
theorem zan (w : World) (e : TypeId) : (w.alloc (.cells #[] e)).ownsRow w.heap.size e 1 (.slice (some ⟨w.heap.size, 0, none⟩) 0 0) 0 [] :=
 ⟨rfl, .inr ⟨w.heap.size, 0, #[], rfl, jH, by show (w.heap.push _)[w.heap.size]? = _; simp, jH, Nat.zero_le _, rfl, rfl⟩⟩
theorem zao {P : Program} {w0 : World} (w : World) {ops : Array Oper} {rest : List Oper} {o : Oper} {a : Act} {Q : Exit -> Act -> World -> Prop} (hgd : o.guard = none) (s x : Operand) (t : TypeId)
 (ho : o.op = .call { callee := .builtin .append, args := #[s, x], argTypes := #[t, t] })
 (base : Nat) (e : TypeId) (i : TypeInfo) (z : Value) (bytes : Nat) (ht : P.underlying t = some (.slice e)) (hi : P.info? e = some i) (hz : i.zero = some z)
 (hsize : i.size = 1) (hby : i.bytes = bytes) (hzs : z.cells.size = 1)
 (v : Value) (n : Nat) (xs : List Value) (hs : a.eval s = v) (hown : w.ownsRow base e 1 v n xs)
 (A : Option Addr) (m c B : Nat) (news : List Value) (hx : a.eval x = .slice A m c) (hA : A = none -> c = 0) (hhas : Has w B A m news) (h1 : ∀ u ∈ news, u.oneCell' = true)
 (h63 : n + m <= maxLen) (hbytes : (n + m) * bytes <= 140737488355328) (hb : Below base w0 w) (hbase : base <= w0.heap.size)
 (h : ∀ v' w', w'.ownsRow base e 1 v' (n + m) (xs ++ news) -> Below base w0 w' -> w.grownBy w' v.ownBlock -> wpList P ops Q rest (a.put o.dst v') w') : wpList P ops Q (o :: rest) a w := by
 have hbw : base <= w.heap.size := by have := hb.size; omega
 match A, hx, hA, hhas with
 | none, hx, hA, hhas =>
   have hm : m = 0 := by
    by_cases h0 : 0 < m
    ·obtain ⟨b, off, e, _⟩ := hhas.2 h0
     cases e
    ·omega
   subst hm
   obtain rfl := hA rfl
   have hn : news = [] := List.eq_nil_of_length_eq_zero hhas.1
   subst hn
   refine wpList_append_own_none hgd s x t ho base e i 1 ht hi v n xs hs hown hx ?_
   exact h v w (by simpa using hown) hb ⟨rfl, rfl, rfl, jH, fun _ _ _ => rfl⟩
 | some ad, hx, hA, hhas =>
   refine wpList_append_own (w := w) hgd s x t ho base e i z 1 bytes ht hi hz hsize hby hzs (by decide) v n xs hs hown ad m c news hx (by rw [hhas.1, Nat.mul_one]) ?_ h1 h63 hbytes hbw ?_
   ·intro j u hj
    have hjl : j < news.length := (List.getElem?_eq_some_iff.1 hj).1
    obtain ⟨b, off, e, hb, hc⟩ := hhas.2 (by have := hhas.1; omega)
    injection e with e
    subst e
    have hadd : (⟨b, off, none⟩ : Addr).add j = ⟨b, off + j, none⟩ := by unfold Addr.add; split <;> simp_all
    rw [hadd, hc j hjl, <- hj, List.getElem?_eq_getElem hjl]
   ·intro v' w' hown' hgrow _
    exact h v' w' hown' (zco hown hb hbw hgrow) hgrow
theorem zap {w : World} {base n c : Nat} {e : TypeId} {A : Option Addr} {xs : List Value} (h : w.ownsRow base e 1 (.slice A n c) n xs) : A = none -> c = 0 := by
 rintro rfl
 rcases h.2 with ⟨e, _⟩ | ⟨g, cap, cur, e, _⟩
 ·injection e
 ·injection e with e _ _; cases e
theorem zaq {w w' : World} {base e size n : Nat} {v : Value} {xs : List Value} (h : w.ownsRow base e size v n xs) (hb : Below w.heap.size w w') : w'.ownsRow base e size v n xs :=
 ⟨h.1, h.2.elim Or.inl fun ⟨g, cap, cur, hv, hg, hr, r⟩ => Or.inr ⟨g, cap, cur, hv, hg, (hb.block g (Array.getElem?_eq_some_iff.1 hr).1).trans hr, r⟩⟩
def zar (w : World) (A : Option Addr) (len cap : Nat) (l : List UInt8) : Prop :=
 Has w w.heap.size A len (l.map bv) /\ len <= cap /\ cap <= maxLen /\ (A = none -> cap = 0)
theorem zar.len {w : World} {A : Option Addr} {len cap : Nat} {l : List UInt8} (h : zar w A len cap l) : l.length = len := by simpa using h.1.1
theorem Has.take {w : World} {B n : Nat} {A : Option Addr} {xs : List Value} (h : Has w B A n xs) (m : Nat) (hm : m <= n) : Has w B A m (xs.take m) :=
 ⟨by have := h.1; simp; omega, fun h0 => by
   obtain ⟨b, off, e, hb, hc⟩ := h.2 (by omega)
   refine ⟨b, off, e, hb, fun j hj => ?_⟩
   rw [hc j (by simp at hj; omega)]
   simp⟩
theorem Has.laid (w : World) (t : TypeId) (c : Array Value) (fr : Nat × Nat) (n : Nat) (xs : List Value) (hc : c = xs.toArray) (hn : xs.length = n) : Has (w.alloc (.cells c t fr)) (w.heap.size + 1) (some ⟨w.heap.size, 0, none⟩) n xs :=
 ⟨hn, fun _ => ⟨w.heap.size, 0, rfl, by omega, fun j hj => by
   subst hc
   rw [cell_of_row _ w.heap.size (0 + j) xs.toArray t fr (heap_alloc_last w _)]
   simp⟩⟩
theorem zas (l : List UInt8) : ∀ u ∈ l.map bv, u.oneCell' = true := by
 intro u hu
 obtain ⟨c, _, rfl⟩ := List.mem_map.1 hu
 rfl
end

section
open Go.RowKit
set_option maxHeartbeats 16000000
theorem z31 : Tryz.prog.underlying 72 = some (.slice 5) := by kernel_rfl
theorem z32 : Tryz.prog.underlying 5 = some (.int .u8) := by kernel_rfl
theorem z33 : Tryz.prog.underlying 9 = some .string := by kernel_rfl
theorem z34 : (Tryz.prog.info? 5).map (fun i => (i.zero, i.size, i.bytes)) = some (some (.int .u8 0), 1, 1) := by kernel_rfl
set_option maxRecDepth 20000 in
theorem z35 (w : World) (A : Option Addr) (n c B : Nat) (l : List UInt8) (h : Has w B A n (l.map bv)) :
 (convert 72 9 (.slice A n c)).run Tryz.prog w = .ok (.string (bs l)) w := by
 have hl : l.length = n := by simpa using h.1
 match A, h with
 | none, h =>
   have hn : n = 0 := by
    by_cases h0 : 0 < n
    ·obtain ⟨b, off, e, _⟩ := h.2 h0
     cases e
    ·omega
   subst hn
   have : l = [] := List.eq_nil_of_length_eq_zero hl
   subst this
   exact run_convert_bytes_nil w 72 5 z31 z32 0 c 9 z33
 | some ad, h =>
   rcases Nat.eq_zero_or_pos n with h0 | h0
   ·subst h0
    have : l = [] := List.eq_nil_of_length_eq_zero hl
    subst this
    have hl0 : (loadCells ad 0).run Tryz.prog w = .ok (([] : List Int).map (Value.int .u8)).toArray w := run_loadCells_list (P := Tryz.prog) w ad [] (fun j v hj => by simp at hj)
    rw [run_convert_bytes_string w 72 9 5 _ 0 c z31 z32 z33, run_bytesToString w ad 0 c [] hl0]
    rfl
   ·obtain ⟨b, off, e, _, hc⟩ := h.2 h0
    injection e with e
    subst e
    rw [run_convert_bytes_arg w 72 5 z31 z32 b off n c (l.map fun c => (c.toNat : Int)) (by simpa using hl) (fun j hj => by
     rw [hc j (by simp; omega)]
     have hjl : j < l.length := by omega
     simp [List.getD, List.getElem?_eq_getElem hjl, bv]) 9 z33, zcn]
theorem z36 (w : World) (base n : Nat) (v : Value) (l : List UInt8) (h : w.ownsRow base 5 1 v n (l.map bv)) :
 (convert 72 9 v).run Tryz.prog w = .ok (.string (bs l)) w := by
 obtain ⟨A, c, rfl, hh, _⟩ := Has.of_own h
 exact z35 w A n c _ l hh
end

section
open Go.RowKit
set_option maxHeartbeats 16000000
theorem z37 : Tryz.prog.underlying 53 = some (.slice 9) := by kernel_rfl
theorem z38 : (Tryz.prog.info? 9).map (fun i => (i.zero, i.size, i.bytes)) = some (some (.string ByteArray.empty), 1, 16) := by kernel_rfl
def wv (acc : List (List UInt8)) : List Value := acc.map fun l => .string (bs l)
theorem z39 (acc : List (List UInt8)) (l : List UInt8) : wv acc ++ [.string (bs l)] = wv (acc ++ [l]) := by simp [wv]
theorem z4a (acc : List (List UInt8)) : (wv acc).length = acc.length := by simp [wv]
theorem z4b (acc : List (List UInt8)) (k : Nat) (h : k < acc.length) : (wv acc)[k]'(by rw [z4a]; exact h) = .string (bs acc[k]) := by simp [wv]
end

section
open Go.RowKit
set_option maxHeartbeats 16000000
def z3t (l : List (List UInt8)) (w : World) (e : Ending) (w' : World) : Prop :=
 ∃ A c, e = .returned (.slice A l.length c) /\ l.length <= c /\ Has w' w'.heap.size A l.length (wv l) /\ Below w.heap.size w w'
theorem z3u {w : World} {B n : Nat} {A : Option Addr} {l : List (List UInt8)} (h : Has w B A n (wv l)) (k : Nat) (hk : k < n) : ∃ b off, A = some ⟨b, off, none⟩ /\ w.cell? ⟨b, off + k, none⟩ = some (.string (bs (l.getD k []))) := by
 have hl : (wv l).length = n := h.1
 rw [z4a] at hl
 obtain ⟨b, off, e, _, hc⟩ := h.at_ hk
 refine ⟨b, off, e, ?_⟩
 rw [hc, z4b l k (by omega), List.getD_eq_getElem?_getD, List.getElem?_eq_getElem (by omega), Option.getD_some]
theorem z3v {α : Type _} (l : List α) (d : α) (_h : 0 < l.length) : l.getD (l.length - 1) d = l.getLastD d := by
 rw [List.getLastD_eq_getLast?, List.getLast?_eq_getElem?, List.getD_eq_getElem?_getD]
theorem z3w {l : List (List UInt8)} (h : 0 < l.length) : (l.getLast? = some [] ↔ l.getD (l.length - 1) [1] = []) := by
 rw [List.getLast?_eq_getElem?, List.getD_eq_getElem?_getD, List.getElem?_eq_getElem (by omega)]
 simp
theorem z3x (l : List UInt8) : ((bs l).toList == ([] : List UInt8)) = decide (l = []) := by
 rw [zb3, zb0]
 cases l <;> rfl
end

section
open Go.RowKit
set_option maxHeartbeats 16000000
def hV (l : List UInt8) : Int := ((znp l).getD 0 : Nat)
def hK (l : List UInt8) : Bool := (znp l).isSome
theorem zjw {l : List UInt8} (h1 : 1 <= l.length) (h2 : l.length <= 4) (h : l.all (fun c => decide (zqe c < 16)) = true) : hV l = (zqf 16 0 l : Nat) /\ hK l = true := by
 unfold hV hK znp
 rw [if_pos ⟨⟨h1, h2⟩, h⟩]
 exact ⟨rfl, rfl⟩
theorem zjx {l : List UInt8} (h : ¬ ((1 <= l.length /\ l.length <= 4) /\ l.all (fun c => decide (zqe c < 16)) = true)) : hV l = 0 /\ hK l = false := by
 unfold hV hK znp
 rw [if_neg h]
 exact ⟨rfl, rfl⟩
theorem zjy (t : ByteArray) (k : Nat) (h : k < t.size) : zqf 16 0 ((ls t).take (k + 1)) = zqf 16 0 ((ls t).take k) * 16 + zqe t[k] := by
 rw [zca t k h, zqg]; rfl
theorem zjz (t : ByteArray) (k : Nat) (h : k < t.size) (hp : ¬ zqe t[k] < 16) : ¬ (ls t).all (fun c => decide (zqe c < 16)) = true := by
 rw [List.all_eq_true]
 intro hall
 have hk : k < (ls t).length := by rw [zb4]; exact h
 have hm := List.getElem_mem hk
 rw [zb8 t k h] at hm
 exact hp (of_decide_eq_true (hall _ hm))
theorem zj0 (l : List UInt8) : ∀ a k, a < 16 ^ k -> l.all (fun c => decide (zqe c < 16)) = true -> zqf 16 a l < 16 ^ (k + l.length) := by
 induction l with
 | nil => intro a k h _; exact h
 | cons c r ih =>
   intro a k h hall
   simp only [List.all_cons, Bool.and_eq_true, decide_eq_true_eq] at hall
   rw [zqf]
   have := ih (a * 16 + zqe c) (k + 1) (by rw [Nat.pow_succ]; omega) hall.2
   rw [List.length_cons, show k + (r.length + 1) = k + 1 + r.length by omega]
   exact this
theorem zj1 (l : List UInt8) : 0 <= hV l /\ hV l < 65536 := by
 unfold hV znp
 split
 ·rename_i h
  have := zj0 l 0 0 (by decide) h.2
  have h4 : (16 : Nat) ^ (0 + l.length) <= 16 ^ 4 := Nat.pow_le_pow_right (by decide) (by omega)
  have e : (16 : Nat) ^ 4 = 65536 := by decide
  simp only [Option.getD_some]
  omega
 ·exact ⟨by simp, by simp⟩
theorem zj2 (s : ByteArray) (w : World) (hs : s.size <= 1000000000) :
 Calls Tryz.prog 155 #[.string s] w fun e w' => e = .returned (.tuple #[.int .u16 (hV (ls s)), .bool (hK (ls s))]) /\ w = w' := by
 by_cases h0 : (s.size : Int) < 1
 ·have hd : decide ((s.size : Int) < 1) = true := jT h0
  have HN := jL (zjx (l := ls s) (fun h => by have := h.1.1; rw [zb4] at this; omega))
  go_enter Tryz.func155, Tryz.ntmps155
  go_wp2
  go_ret2
  exact ⟨by rw [HN.out.1, HN.out.2]; rfl, rfl⟩
 ·have hd : decide ((s.size : Int) < 1) = false := jF h0
  by_cases h4 : 4 < (s.size : Int)
  ·have hd4 : decide (4 < (s.size : Int)) = true := jT h4
   have HN := jL (zjx (l := ls s) (fun h => by have := h.1.2; rw [zb4] at this; omega))
   go_enter Tryz.func155, Tryz.ntmps155
   go_wp2
   go_ret2
   exact ⟨by rw [HN.out.1, HN.out.2]; rfl, rfl⟩
  ·have hd4 : decide (4 < (s.size : Int)) = false := jF h4
   have hs4 : s.size <= 4 := by omega
   have HS := jL (show 1 <= s.size by omega)
   clear h0 h4
   go_enter Tryz.func155, Tryz.ntmps155
   go_wp2
   go_loop [4, 5] (fun n i => ∃ (k : Nat) (z : Int), k <= s.size /\ i = .int .i64 k /\ n = .int .i64 z /\ 0 <= z /\ z <= 65535 /\ Hid (z = (zqf 16 0 ((ls s).take k) : Nat)) /\ Hid (((ls s).take k).all (fun c => decide (zqe c < 16)) = true)) (fun _ i => s.size - (intOf i).toNat)
   case atStart => exact ⟨0, 0, Nat.zero_le _, rfl, rfl, by omega, by omega, jL rfl, jL rfl⟩
   case round =>
    obtain ⟨k, z, hk, rfl, rfl, hz0, hz1, HZ, HALL⟩ := hrel
    by_cases hlt : k < s.size
    ·have HZ16 : Hid (z <= 4095) := by
      show _ <= _
      have h1 := zj0 ((ls s).take k) 0 0 (by decide) HALL.out
      rw [List.length_take, Nat.min_eq_left (by rw [zb4]; omega), Nat.zero_add] at h1
      have h2 : (16 : Nat) ^ k <= 16 ^ 3 := Nat.pow_le_pow_right (by decide) (by omega)
      have e : (16 : Nat) ^ 3 = 4096 := by decide
      rw [HZ.out]; omega
     have hz3 : z <= 4095 := HZ16.out
     have hyl := zce s[k]
     obtain ⟨y, hy⟩ : ∃ y : Int, y = (s[k].toNat : Int) := ⟨_, rfl⟩
     have hy0 : 0 <= y := by omega
     have HY := jL hy
     have hye : (s[k].toNat : Int) = y := hy.symm
     rw [<- hy] at hyl
     clear hy
     by_cases h1 : (48 : Int) <= y /\ y <= 57
     ·obtain ⟨h1, h2⟩ := h1
      have HDV : Hid (y - 48 = (zqe s[k] : Nat)) := by show _ = _; have := HY.out; unfold zqe; rw [if_pos (by omega)]; omega
      have HZ2 : Hid (z * 16 + (y - 48) = (zqf 16 0 ((ls s).take (k + 1)) : Nat)) := by
       show _ = _
       rw [zjy s k hlt, HDV.out, HZ.out]; omega
      have HA2 : Hid (((ls s).take (k + 1)).all (fun c => decide (zqe c < 16)) = true) := by
       refine jL (zbt _ s k hlt HALL.out (jT ?_))
       have := HDV.out
       omega
      go_wp2
      go_round
      case rel => exact ⟨k + 1, z * 16 + (y - 48), by omega, by go_num, by first | rfl | go_num | (congr 1; omega), by omega, by omega, HZ2, HA2⟩
      case measure => simp [intOf]; omega
     ·by_cases h2 : (97 : Int) <= y /\ y <= 102
      ·obtain ⟨h2, h3⟩ := h2
       have h4 : ¬ y <= 57 := by omega
       have h5 : (48 : Int) <= y := by omega
       clear h1
       have HDV : Hid (y - 97 + 10 = (zqe s[k] : Nat)) := by show _ = _; have := HY.out; unfold zqe; rw [if_neg (by omega), if_pos (by omega)]; omega
       have HZ2 : Hid (z * 16 + (y - 97 + 10) = (zqf 16 0 ((ls s).take (k + 1)) : Nat)) := by
        show _ = _
        rw [zjy s k hlt, HDV.out, HZ.out]; omega
       have HA2 : Hid (((ls s).take (k + 1)).all (fun c => decide (zqe c < 16)) = true) := by
        refine jL (zbt _ s k hlt HALL.out (jT ?_))
        have := HDV.out
        omega
       go_wp2
       go_round
       case rel => exact ⟨k + 1, z * 16 + (y - 97 + 10), by omega, by go_num, by first | rfl | go_num | (congr 1; omega), by omega, by omega, HZ2, HA2⟩
       case measure => simp [intOf]; omega
      ·by_cases h3 : (65 : Int) <= y /\ y <= 70
       ·obtain ⟨h3, h4⟩ := h3
        have h5 : ¬ y <= 57 := by omega
        have h6 : (48 : Int) <= y := by omega
        have h7 : ¬ (97 : Int) <= y := by omega
        clear h1 h2
        have HDV : Hid (y - 65 + 10 = (zqe s[k] : Nat)) := by show _ = _; have := HY.out; unfold zqe; rw [if_neg (by omega), if_neg (by omega), if_pos (by omega)]; omega
        have HZ2 : Hid (z * 16 + (y - 65 + 10) = (zqf 16 0 ((ls s).take (k + 1)) : Nat)) := by
         show _ = _
         rw [zjy s k hlt, HDV.out, HZ.out]; omega
        have HA2 : Hid (((ls s).take (k + 1)).all (fun c => decide (zqe c < 16)) = true) := by
         refine jL (zbt _ s k hlt HALL.out (jT ?_))
         have := HDV.out
         omega
        go_wp2
        go_round
        case rel => exact ⟨k + 1, z * 16 + (y - 65 + 10), by omega, by go_num, by first | rfl | go_num | (congr 1; omega), by omega, by omega, HZ2, HA2⟩
        case measure => simp [intOf]; omega
       ·have HN := jL (zjx (l := ls s) (fun h => zjz s k hlt (by have := HY.out; unfold zqe; rw [if_neg (by omega), if_neg (by omega), if_neg (by omega)]; decide) h.2))
        by_cases g1 : (48 : Int) <= y
        ·have g2 : ¬ y <= 57 := fun h => h1 ⟨g1, h⟩
         by_cases g3 : (65 : Int) <= y
         ·have g4 : ¬ y <= 70 := fun h => h3 ⟨g3, h⟩
          by_cases g5 : (97 : Int) <= y
          ·have g6 : ¬ y <= 102 := fun h => h2 ⟨g5, h⟩
           clear h1 h2 h3
           go_wp2
           go_ret2
           exact ⟨by rw [HN.out.1, HN.out.2]; rfl, rfl⟩
          ·clear h1 h2 h3
           have g7 := g5
           go_wp2
           go_ret2
           exact ⟨by rw [HN.out.1, HN.out.2]; rfl, rfl⟩
         ·have g5 : ¬ (97 : Int) <= y := by omega
          clear h1 h2 h3
          go_wp2
          go_ret2
          exact ⟨by rw [HN.out.1, HN.out.2]; rfl, rfl⟩
        ·have g3 : ¬ (65 : Int) <= y := by omega
         have g5 : ¬ (97 : Int) <= y := by omega
         clear h1 h2 h3
         go_wp2
         go_ret2
         exact ⟨by rw [HN.out.1, HN.out.2]; rfl, rfl⟩
    ·obtain rfl : k = s.size := by omega
     have HN : Hid (hV (ls s) = z /\ hK (ls s) = true) := by
      have hz := HZ.out
      have ha := HALL.out
      rw [zcb] at hz ha
      have := zjw (by rw [zb4]; exact HS.out) (by rw [zb4]; exact hs4) ha
      rw [hz]
      exact jL this
     go_wp2
     go_ret2
     exact ⟨by rw [HN.out.1, HN.out.2]; rfl, rfl⟩
def zj3 (l : List UInt8) : Int := match zns l 0 with
 | none => -1
 | some i => (i : Int)
theorem zj4 (s : ByteArray) (k : Nat) (h : k + 1 < s.size) : zns ((ls s).drop k) k = if s[k] = 58 /\ s[k + 1] = 58 then some k else zns ((ls s).drop (k + 1)) (k + 1) := by
 have e1 : (ls s).drop k = s[k] :: (ls s).drop (k + 1) := by
  rw [List.drop_eq_getElem_cons (by rw [zb4]; omega), zb8 s k (by omega)]; rfl
 have e2 : (ls s).drop (k + 1) = s[k + 1] :: (ls s).drop (k + 2) := by
  rw [List.drop_eq_getElem_cons (by rw [zb4]; omega), zb8 s (k + 1) (by omega)]; rfl
 rw [e1, e2, zns]
theorem zj5 (s : ByteArray) (k : Nat) (h : ¬ k + 1 < s.size) : zns ((ls s).drop k) k = none := by
 have : ((ls s).drop k).length <= 1 := by rw [List.length_drop, zb4]; omega
 match hx : (ls s).drop k, this with
 | [], _ => rfl
 | [_], _ => rfl
theorem zj6 (s : ByteArray) (w : World) (hs : s.size <= 1000000000) :
 Calls Tryz.prog 116 #[.string s] w fun e w' => e = .returned (.int .i64 (zj3 (ls s))) /\ w = w' := by
 go_enter Tryz.func116, Tryz.ntmps116
 go_wp2
 go_loop [3] (fun i => ∃ k : Nat, k <= s.size /\ i = .int .i64 k /\ Hid (zns ((ls s).drop k) k = zns (ls s) 0)) (fun i => s.size - (intOf i).toNat)
 case atStart => exact ⟨0, Nat.zero_le _, rfl, jL rfl⟩
 case round =>
  obtain ⟨k, hk, rfl, HD⟩ := hrel
  by_cases hlt : k + 1 < s.size
  ·have hlt1 : k < s.size := by omega
   have hd : decide ((k : Int) + 1 < (s.size : Int)) = true := jT (by omega)
   have HST := jL (zj4 s k hlt)
   by_cases h1 : s[k] = 58
   ·have hq1 : ((s[k].toNat : Int) == 58) = true := by rw [h1]; rfl
    by_cases h2 : s[k + 1] = 58
    ·have hq2 : ((s[k + 1].toNat : Int) == 58) = true := by rw [h2]; rfl
     have HR : Hid (zj3 (ls s) = (k : Int)) := by
      show _ = _
      unfold zj3
      rw [<- HD.out, HST.out, if_pos ⟨h1, h2⟩]
     clear h1 h2
     go_wp2
     go_ret
     exact ⟨zby HR.out.symm, rfl⟩
    ·have hq2 : ((s[k + 1].toNat : Int) == 58) = false := by
      rw [beq_eq_false_iff_ne]
      exact fun e => h2 (UInt8.toNat_inj.1 (by rw [show (58 : UInt8).toNat = 58 from rfl]; omega))
     have HR : Hid (zns ((ls s).drop (k + 1)) (k + 1) = zns (ls s) 0) := by
      show _ = _
      rw [<- HD.out, HST.out, if_neg (fun h => h2 h.2)]
     clear h1 h2
     go_wp2
     go_round
     case rel => exact ⟨k + 1, by omega, by go_num, HR⟩
     case measure => simp [intOf]; omega
   ·have hq1 : ((s[k].toNat : Int) == 58) = false := by
     rw [beq_eq_false_iff_ne]
     exact fun e => h1 (UInt8.toNat_inj.1 (by rw [show (58 : UInt8).toNat = 58 from rfl]; omega))
    have HR : Hid (zns ((ls s).drop (k + 1)) (k + 1) = zns (ls s) 0) := by
     show _ = _
     rw [<- HD.out, HST.out, if_neg (fun h => h1 h.1)]
    clear h1
    go_wp2
    go_round
    case rel => exact ⟨k + 1, by omega, by go_num, HR⟩
    case measure => simp [intOf]; omega
  ·have hd : decide ((k : Int) + 1 < (s.size : Int)) = false := jF (by omega)
   have HR : Hid (zj3 (ls s) = -1) := by
    show _ = _
    unfold zj3
    rw [<- HD.out, zj5 s k hlt]
   go_wp2
   go_ret
   exact ⟨zby HR.out.symm, rfl⟩
end

section
open Go.RowKit
set_option maxHeartbeats 16000000
theorem z3y {P : Program} {md : Region.Mode} {ops : Array Oper} {Q : Exit -> Act -> World -> Prop} {i : Nat} {oi : Oper} {v : Value} {fuel : Nat} {listed : Array Bool} {a : Act} {w : World} (hi : ops[i]? = some oi)
 (hs : Region.noSelect ops = true) (hf : Region.free md ops listed i = true) (hr : (Region.ready md ops listed).contains i = true)
 (hQ : ∀ c a w, Q (.panic c) (a.put oi.dst v) w -> Q (.panic c) a w) (hw : Region.wanted oi (yielded ops a.tmps) = true) (hrun : ∀ w, (execOp a.eval oi).run P w = .ok (.value v) w)
 (h : ∀ K : Act -> World -> Prop, (∀ a w, wpAny P md ops Q fuel (listed.setIfInBounds i true) a w -> K a w) -> K (a.put oi.dst v) w) : wpAny P md ops Q (fuel + 1) listed a w :=
 wpAny_take hi hs hf hr hQ (Or.inl ⟨hw, hrun⟩) (h _ (fun _ _ h => h))
end

section
open Go.RowKit
set_option maxHeartbeats 16000000
theorem z1r : ∀ (k u : Nat), 0 < k -> u < 10 ^ k -> (Lib.decDigits u).length <= k
 | 0, _, h, _ => by omega
 | k + 1, u, _, hu => by
   by_cases h : u < 10
   ·rw [Lib.decDigits_one h]; simp
   ·rw [z2n u h, List.length_append]
    rcases Nat.eq_zero_or_pos k with h0 | h0
    ·subst h0; simp at hu; omega
    ·have := z1r k (u / 10) h0 (by rw [Nat.pow_succ] at hu; omega)
     simp only [List.length_cons, List.length_nil]
     omega
theorem z1s (u : Nat) (h : u <= 9223372036854775807) : (bs (Lib.decDigits u)).size <= 19 := by
 rw [zb5]
 exact z1r 19 u (by omega) (by omega)
theorem z1t (w : World) (b : Nat) (y : Int) (c : UInt8) (hy : y = (c.toNat : Int)) (h : w.cell? ⟨b, 0, none⟩ = some (.int .u8 y)) :
 (convert 72 9 (.slice (some ⟨b, 0, none⟩) 1 1)).run Tryz.prog w = .ok (.string (bs [c])) w := by
 have e := run_convert_bytes_back (P := Tryz.prog) w 72 9 5 ⟨b, 0, none⟩ 1 [c] z31 z32 z33 (fun j hj => by
  match j, hj with
  | 0, _ => rw [show (⟨b, 0, none⟩ : Addr).add 0 = ⟨b, 0, none⟩ from rfl, h, hy]; rfl)
 exact e
theorem z1u (w : World) (y : Int) (c : UInt8) (hy : y = (c.toNat : Int)) :
 (convert 72 9 (.slice (some ⟨w.heap.size, 0, none⟩) 1 1)).run Tryz.prog (w.alloc (.cells #[.int .u8 y] 5)) = .ok (.string (bs [c])) (w.alloc (.cells #[.int .u8 y] 5)) :=
 z1t _ _ y c hy (by rw [World.cell?_alloc_at _ _ _ _ rfl]; rfl)
theorem z1v (z : Int) (h : ¬ z < 10) : Lib.decDigits z.toNat = Lib.decDigits (z / 10).toNat ++ [UInt8.ofNat (48 + (z % 10).toNat)] := by
 rw [z2n _ (by omega), show z.toNat / 10 = (z / 10).toNat by omega, show z.toNat % 10 = (z % 10).toNat by omega]
attribute [local irreducible] wpAny in
theorem z1w (N : Nat) : ∀ (z : Int), 0 <= z -> z <= 9223372036854775807 -> z.toNat <= N -> ∀ w : World,
 Calls Tryz.prog 50 #[.int .i64 z] w fun e w' => e = .returned (.string (bs (Lib.decDigits z.toNat))) /\ Below w.heap.size w w' := by
 induction N with
 | zero =>
   intro z h0 h1 hN w
   obtain rfl : z = 0 := by omega
   have hcv := z1u w 48 48 rfl
   have HE : Hid (bs (Lib.decDigits (Int.toNat 0)) = bs [48]) := by refine jL ?_; rw [show Int.toNat 0 = 0 from rfl, Lib.decDigits_one (by omega)]; rfl
   rw [HE.out]
   go_enter Tryz.func50, Tryz.ntmps50
   go_wp2
   go_ret
   exact ⟨rfl, (Below.refl _ _).alloc jH _⟩
 | succ N ih =>
   intro z h0 h1 hN w
   by_cases hz : z < 10
   ·obtain ⟨c, hc⟩ : ∃ c, UInt8.ofNat (48 + z.toNat) = c := ⟨_, rfl⟩
    have hcv := z1u w (48 + z) c (by rw [<- hc, z2o _ (by omega)]; omega)
    have HE : Hid (bs (Lib.decDigits z.toNat) = bs [c]) := by refine jL ?_; rw [Lib.decDigits_one (by omega), hc]
    rw [HE.out]
    clear ih hN hc
    go_enter Tryz.func50, Tryz.ntmps50
    go_wp2
    go_ret
    exact ⟨rfl, (Below.refl _ _).alloc jH _⟩
   ·have HE := jL (congrArg bs (z1v z hz))
    obtain ⟨q, hq⟩ : ∃ q, z / 10 = q := ⟨_, rfl⟩
    obtain ⟨r, hr⟩ : ∃ r, z % 10 = r := ⟨_, rfl⟩
    have hq0 : 0 <= q := by omega
    have hq1 : q <= 9223372036854775807 := by omega
    have hqN : q.toNat <= N := by omega
    have hr0 : 0 <= r := by omega
    have hr1 : r < 10 := by omega
    rw [hq, hr] at HE
    obtain ⟨c, hc⟩ : ∃ c, UInt8.ofNat (48 + r.toNat) = c := ⟨_, rfl⟩
    have hcr : 48 + r = (c.toNat : Int) := by rw [<- hc, z2o _ (by omega)]; omega
    rw [hc] at HE
    obtain ⟨D, hD⟩ : ∃ D, bs (Lib.decDigits q.toNat) = D := ⟨_, rfl⟩
    have HA : Hid (bs (Lib.decDigits z.toNat) = D ++ bs [c]) := by
     refine jL ?_
     rw [HE.out, <- hD]
     apply zb2
     rw [zb6, zb0, zb0, zb0]
    rw [HA.out]
    have hsz : ¬ (9223372036854775807 < D.size + (bs [c]).size) := by
     have := z1s q.toNat (by omega)
     rw [hD] at this
     rw [zb5]
     simp only [List.length_cons, List.length_nil]
     omega
    have ihq := ih q hq0 hq1 hqN
    rw [hD] at ihq
    have hstr := fun W => z1u W (48 + r) c hcr
    have hone := fun W b => z1t W b (48 + r) c hcr
    have hcell : ∀ W : World, (W.alloc (.cells #[.int .u8 (48 + r)] 5)).cell? ⟨W.heap.size, 0, none⟩ = some (.int .u8 (48 + r)) := fun W => by rw [World.cell?_alloc_at _ _ _ _ rfl]; rfl
    have hsd := hstr w.drew
    have HZ := jL hD
    clear ih hN hD HE HA hc hcr
    go_enter Tryz.func50, Tryz.ntmps50
    go_wp2
    refine wp_region_any (by kernel_rfl) ?_
    change wpAny _ _ _ _ _ _ _ (World.drew _)
    refine z3y (i := 0) (v := ?_) rfl (by kernel_rfl) (by kernel_rfl) (by kernel_rfl) (fun _ _ _ h => h) (by exact rfl) (by intro w; go_simp; try with_reducible rfl) (fun K hK => ?_); go_simp; refine hK _ _ ?_; clear hK K
    refine z3y (i := 1) (v := ?_) rfl (by kernel_rfl) (by kernel_rfl) (by kernel_rfl) (fun _ _ _ h => h) (by exact rfl) (by intro w; go_simp; try with_reducible rfl) (fun K hK => ?_); go_simp; refine hK _ _ ?_; clear hK K
    refine z3y (i := 3) (v := ?_) rfl (by kernel_rfl) (by kernel_rfl) (by kernel_rfl) (fun _ _ _ h => h) (by exact rfl) (by intro w; go_simp; try with_reducible rfl) (fun K hK => ?_); go_simp; refine hK _ _ ?_; clear hK K
    refine z3y (i := 4) (v := ?_) rfl (by kernel_rfl) (by kernel_rfl) (by kernel_rfl) (fun _ _ _ h => h) (by exact rfl) (by intro w; go_simp; try with_reducible rfl) (fun K hK => ?_); go_simp; refine hK _ _ ?_; clear hK K
    refine z3y (i := 5) (v := ?_) rfl (by kernel_rfl) (by kernel_rfl) (by kernel_rfl) (fun _ _ _ h => h) (by exact rfl) (by intro w; go_simp; try with_reducible rfl) (fun K hK => ?_); go_simp; refine hK _ _ ?_; clear hK K
    refine z3y (i := 6) (v := ?_) rfl (by kernel_rfl) (by kernel_rfl) (by kernel_rfl) (fun _ _ _ h => h) (by exact rfl) (by intro w; go_simp; try with_reducible rfl) (fun K hK => ?_); go_simp; refine hK _ _ ?_; clear hK K
    have e1 : IntKind.i64.wrap (z.tdiv 10) = q := by rw [Int.tdiv_eq_ediv_of_nonneg h0, hq, IntKind.wrap_i64]; omega
    have e2 : z.tmod 10 = r := by rw [Int.tmod_eq_emod_of_nonneg h0, hr]
    have e3 : IntKind.i64.wrap (48 + r) = 48 + r := by rw [IntKind.wrap_i64]; omega
    have e4 : IntKind.u8.wrap (48 + r) = 48 + r := by rw [IntKind.wrap_u8]; omega
    rw [e1, e2, e3, e4]
    clear hq hr e1 e2 e3 e4
    refine wpAny_ready (rs := [2, 7]) (by kernel_rfl) (by simp) ?_
    refine AllReady.cons rfl (fun K hK => ?_) (AllReady.cons rfl (fun K hK => ?_) AllReady.nil)
    ·go_simp
     refine (ihq _).mono ?_
     rintro e w1 ⟨rfl, hb⟩
     have hs1 := hstr w1
     refine hK _ _ ?_
     clear hK K
     refine wpAny_ready (rs := [7]) (by kernel_rfl) (by simp) ?_
     refine AllReady.cons rfl (fun K hK => ?_) AllReady.nil
     go_simp
     refine hK _ _ ?_
     clear hK K
     refine wpAny_ready (rs := [8]) (by kernel_rfl) (by simp) ?_
     refine AllReady.cons rfl (fun K hK => ?_) AllReady.nil
     go_simp
     refine hK _ _ ?_
     clear hK K
     refine z3y (i := 9) (v := ?_) rfl (by kernel_rfl) (by kernel_rfl) (by kernel_rfl) (fun _ _ _ h => h) (by exact rfl) (by intro w; go_simp; try with_reducible rfl) (fun K hK => ?_); go_simp; refine hK _ _ ?_; clear hK K
     refine wpAny_ready (rs := [10]) (by kernel_rfl) (by simp) ?_
     refine AllReady.cons rfl (fun K hK => ?_) AllReady.nil
     go_simp
     refine hK _ _ ?_
     clear hK K
     refine wpAny_done (by kernel_rfl) ?_ _
     go_wp2
     go_ret
     exact ⟨rfl, (((Below.refl w.heap.size w).drew.trans (hb.mono jH)).alloc hb.size _)⟩
    ·go_simp
     refine hK _ _ ?_
     clear hK K
     refine wpAny_ready (rs := [2, 8]) (by kernel_rfl) (by simp) ?_
     refine AllReady.cons rfl (fun K hK => ?_) (AllReady.cons rfl (fun K hK => ?_) AllReady.nil)
     ·go_simp
      refine (ihq _).mono ?_
      rintro e w1 ⟨rfl, hb⟩
      have hs1 := hone w1 w.heap.size (by exact (hb.cell (by simp)).trans (hcell w.drew))
      refine hK _ _ ?_
      clear hK K
      refine wpAny_ready (rs := [8]) (by kernel_rfl) (by simp) ?_
      refine AllReady.cons rfl (fun K hK => ?_) AllReady.nil
      go_simp
      refine hK _ _ ?_
      clear hK K
      refine z3y (i := 9) (v := ?_) rfl (by kernel_rfl) (by kernel_rfl) (by kernel_rfl) (fun _ _ _ h => h) (by exact rfl) (by intro w; go_simp; try with_reducible rfl) (fun K hK => ?_); go_simp; refine hK _ _ ?_; clear hK K
      refine wpAny_ready (rs := [10]) (by kernel_rfl) (by simp) ?_
      refine AllReady.cons rfl (fun K hK => ?_) AllReady.nil
      go_simp
      refine hK _ _ ?_
      clear hK K
      refine wpAny_done (by kernel_rfl) ?_ _
      go_wp2
      go_ret
      exact ⟨rfl, (((Below.refl w.heap.size w).drew.alloc jH _).trans (hb.mono (by simp)))⟩
     ·go_simp
      refine hK _ _ ?_
      clear hK K
      refine wpAny_ready (rs := [2]) (by kernel_rfl) (by simp) ?_
      refine AllReady.cons rfl (fun K hK => ?_) AllReady.nil
      go_simp
      refine (ihq _).mono ?_
      rintro e w1 ⟨rfl, hb⟩
      refine hK _ _ ?_
      clear hK K
      refine z3y (i := 9) (v := ?_) rfl (by kernel_rfl) (by kernel_rfl) (by kernel_rfl) (fun _ _ _ h => h) (by exact rfl) (by intro w; go_simp; try with_reducible rfl) (fun K hK => ?_); go_simp; refine hK _ _ ?_; clear hK K
      refine wpAny_ready (rs := [10]) (by kernel_rfl) (by simp) ?_
      refine AllReady.cons rfl (fun K hK => ?_) AllReady.nil
      go_simp
      refine hK _ _ ?_
      clear hK K
      refine wpAny_done (by kernel_rfl) ?_ _
      go_wp2
      go_ret
      exact ⟨rfl, (((Below.refl w.heap.size w).drew.alloc jH _).trans (hb.mono (by simp)))⟩
theorem z1x (z : Int) (h0 : 0 <= z) (h1 : z <= 9223372036854775807) (w : World) :
 Calls Tryz.prog 50 #[.int .i64 z] w fun e w' => e = .returned (.string (bs (Lib.decDigits z.toNat))) /\ Below w.heap.size w w' := z1w z.toNat z h0 h1 jH w
end

section
open Go.RowKit
set_option maxHeartbeats 16000000
def z1z (l : List (List UInt8)) (w : World) (e : Ending) (w' : World) : Prop :=
 ∃ v n, e = .returned v /\ w'.ownsRow w.heap.size 9 1 v n (wv l) /\ Below w.heap.size w w'
def z10 (c : UInt8) (s : ByteArray) (acc : List (List UInt8)) (cur : List UInt8) (i : Nat) : Prop := acc ++ z3a c ((ls s).drop i) cur = z3b c (ls s)
theorem z11 (c : UInt8) (s : ByteArray) : z10 c s [] [] 0 := rfl
theorem z12 (s : ByteArray) (i : Nat) (h : i < s.size) : (ls s).drop i = s[i] :: (ls s).drop (i + 1) := by
 rw [List.drop_eq_getElem_cons (by rw [zb4]; exact h), zb8 s i h]
 rfl
theorem z13 {c : UInt8} {s : ByteArray} {acc cur} {i : Nat} (h : z10 c s acc cur i) (hi : i < s.size) (hb : s[i] ≠ c) : z10 c s acc (cur ++ [s[i]]) (i + 1) := by
 unfold z10 at h ⊢
 rw [z12 s i hi, z3a, if_neg hb] at h
 exact h
theorem z14 {c : UInt8} {s : ByteArray} {acc cur} {i : Nat} (h : z10 c s acc cur i) (hi : i < s.size) (hb : s[i] = c) : z10 c s (acc ++ [cur]) [] (i + 1) := by
 unfold z10 at h ⊢
 rw [z12 s i hi, z3a, if_pos hb] at h
 rw [List.append_assoc]
 exact h
theorem z15 {c : UInt8} {s : ByteArray} {acc cur} (h : z10 c s acc cur s.size) : acc ++ [cur] = z3b c (ls s) := by
 unfold z10 at h
 rw [zcd, z3a] at h
 exact h
set_option maxRecDepth 20000 in
theorem z16 (s : ByteArray) (c : UInt8) (w : World) (hs : s.size <= 1000000000) :
 Calls Tryz.prog 92 #[.string s, .int .u8 (c.toNat : Int)] w (z1z (z3b c (ls s)) w) := by
 obtain ⟨i9, hi9, hz0, hz1, hz2⟩ := info_parts z38
 obtain ⟨cv, hcv⟩ : ∃ x : Int, x = (c.toNat : Int) := ⟨_, rfl⟩
 have HC := jL hcv
 rw [<- hcv]
 clear hcv
 go_enter Tryz.func92, Tryz.ntmps92
 go_wp2
 go_loopw [5, 6, 7] (fun v f i wr => ∃ (k m : Nat) (acc : List (List UInt8)), m <= k /\ k <= s.size + 1 /\ acc.length <= k /\ i = .int .i64 k /\ f = .int .i64 m /\ Hid (k <= s.size -> z10 c s acc (sub s m k) k) /\ Hid (s.size < k -> acc = z3b c (ls s)) /\
  wr.ownsRow w.heap.size 9 1 v acc.length (wv acc) /\ Below w.heap.size w wr) (fun _ _ i _ => s.size + 1 - (intOf i).toNat)
 case atStart => exact ⟨0, 0, [], jH, by omega, jH, rfl, rfl, jL (fun _ => by rw [zbu]; exact z11 c s), jL (fun h => by omega), World.ownsRow_nil _ _ _ _, Below.refl _ _⟩
 case round =>
  obtain ⟨k, m, acc, hmk, hk, hal, rfl, rfl, HAT, HEND, hown, hb⟩ := hrel
  by_cases hlt : k < s.size
  ·by_cases hsp : s[k] = c
   ·have hq : ((s[k].toNat : Int) == cv) = true := by rw [HC.out, hsp]; simp
    have HSP := jL hsp
    clear hsp
    go_wp2_with (at_builtin; refine zcq _ rfl _ _ 53 rfl w.heap.size 9 i9 (.string ByteArray.empty) 16 z37 hi9 hz0 hz1 hz2 rfl _ (by exact rfl) _ _ _ (by exact rfl) hown (by exact rfl) (by unfold maxLen; omega) (by omega) hb jH ?_; intro v' w' hown' hb' _)
    go_roundw
    case rel =>
     refine ⟨k + 1, k + 1, acc ++ [sub s m k], jH, by omega, by simp; omega, by go_num, by go_num, jL (fun _ => ?_), jL (fun h => by omega), ?_, hb'⟩
     ·rw [zbu]; exact z14 (HAT.out (by omega)) hlt HSP.out
     ·rw [<- z39, <- zbw]; simpa using hown'
    case measure => simp [intOf]; omega
   ·have hq : ((s[k].toNat : Int) == cv) = false := by
     rw [HC.out, beq_eq_false_iff_ne]
     exact fun e => hsp (UInt8.toNat_inj.1 (by omega))
    have HSP : Hid (s[k] ≠ c) := jL hsp
    clear hsp
    go_wp2
    go_roundw
    case rel =>
     refine ⟨k + 1, m, acc, by omega, by omega, by omega, by go_num, rfl, jL (fun _ => ?_), jL (fun h => by omega), hown, hb⟩
     rw [zbv s m k hmk hlt]; exact z13 (HAT.out (by omega)) hlt HSP.out
    case measure => simp [intOf]; omega
  ·by_cases hle : k <= s.size
   ·obtain rfl : k = s.size := by omega
    go_wp2_with (at_builtin; refine zcq _ rfl _ _ 53 rfl w.heap.size 9 i9 (.string ByteArray.empty) 16 z37 hi9 hz0 hz1 hz2 rfl _ (by exact rfl) _ _ _ (by exact rfl) hown (by exact rfl) (by unfold maxLen; omega) (by omega) hb jH ?_; intro v' w' hown' hb' _)
    go_roundw
    case rel =>
     refine ⟨s.size + 1, s.size + 1, acc ++ [sub s m s.size], jH, by omega, by simp; omega, by go_num, by go_num, jL (fun h => by omega), jL (fun _ => z15 (HAT.out jH)), ?_, hb'⟩
     rw [<- z39, <- zbw]; simpa using hown'
    case measure => simp [intOf]
   ·obtain rfl : k = s.size + 1 := by omega
    have HE : Hid (acc = z3b c (ls s)) := jL (HEND.out (by omega))
    go_wp2
    go_ret
    exact ⟨_, _, rfl, by rw [<- HE.out]; exact hown, hb⟩
end

end Go.Proofs.YtekaljeicfjkjaaGreatDoor
