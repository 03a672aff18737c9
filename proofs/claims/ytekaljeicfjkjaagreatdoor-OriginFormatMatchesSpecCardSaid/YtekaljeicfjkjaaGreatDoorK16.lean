/-
strings.Join at a dot.
The program's parseNumbers, parseBracketed, joined of package host.
The program's Valid of package host (written by tools/gen-Ho9.py).
The program's Format of package host.
Hosts: lengths of texts; a guarded load of a host's variable, a host that is compared with itself.
-/
import Derived.Test.YtekaljeicfjkjaaGreatDoorShelf
import Derived.Test.YtekaljeicfjkjaaGreatDoorShelfJ
import Derived.Test.YtekaljeicfjkjaaGreatDoorK02
import Derived.Test.YtekaljeicfjkjaaGreatDoorK07
import Derived.Shelf.Strings.OnBuilder
import Derived.Test.YtekaljeicfjkjaaGreatDoorK08
import Derived.Test.YtekaljeicfjkjaaGreatDoorK14
import Derived.Test.YtekaljeicfjkjaaGreatDoorK10
import Derived.Test.YtekaljeicfjkjaaGreatDoorK03
import Derived.Deep.RegionHeld3
import Derived.Deep.Cut
namespace Go.Proofs.YtekaljeicfjkjaaGreatDoor
section
open Go.RowKit Go.Shelf
set_option maxHeartbeats 16000000
theorem zge : Builder.Extra Tryz.prog Tryz.lays156_ren where
 sizeBuilder := by kernel_rfl
 liesBuilder := by kernel_rfl
 t5 := Tryz.underlying5
 a5 := Tryz.isAgg5
 z5 := Tryz.sizeOf5
 v5 := Tryz.zeroValue5
 infoByte := by kernel_rfl
 cellsByte := by kernel_rfl
 sizeByte := by kernel_rfl
 neB5 := by decide
theorem zgf : ∀ (L : List (List UInt8)), Lib.join L [46] = z3k 46 L
 | [] => rfl
 | [a] => by simp [Lib.join, z3k]
 | a :: b :: r => by
   have ih := zgf (b :: r)
   rw [z3k, <- ih]
   simp [Lib.join]
theorem zgg (L : List (List UInt8)) (A : Option Addr) (c B : Nat) (w : World) (h : Has w B A L.length (wv L)) (hB : B <= w.heap.size) (hc : L.length <= c) (hL : L.length <= 1000000000) (hlen : (z3k 46 L).length <= 10000000000) :
 Calls Tryz.prog 183 #[.slice A L.length c, .string ⟨#[46]⟩] w fun e w' => e = .returned (.string (bs (z3k 46 L))) /\ Below w.heap.size w w' := by
 by_cases h0 : 0 < L.length
 ·obtain ⟨b, off, rfl, hb, hcell⟩ := h.2 h0
  have e1 : (L.map bs).map (fun x : ByteArray => x.data.toList) = L := by
   rw [List.map_map]
   exact List.map_id L
  have c1 := Any.strings_Join Tryz.lays156 zge b off c (L.map bs) ⟨#[46]⟩ w (fun j x hj => by
   have hjl : j < L.length := by
    have := (List.getElem?_eq_some_iff.1 hj).1
    simpa using this
   rw [hcell j (by simpa [wv] using hjl)]
   have : (L.map bs)[j]? = some (bs L[j]) := by simp [hjl]
   rw [this] at hj
   injection hj with hj
   rw [<- hj]
   simp [wv]) (by omega) (by simp; omega) (by simpa using hc) (by
   rw [e1]
   show (Lib.join L [46]).length <= _
   rw [zgf]
   omega)
  rw [e1] at c1
  have e2 : Lib.join L (⟨#[46]⟩ : ByteArray).data.toList = z3k 46 L := zgf L
  rw [e2, List.length_map] at c1
  exact c1
 ·have : L = [] := List.eq_nil_of_length_eq_zero (by omega)
  subst this
  exact (Any.strings_Join_none Tryz.lays156 zge A c ⟨#[46]⟩ w).mono fun e w' hh => ⟨hh.1, hh.2 ▸ Below.refl _ _⟩
end

section
open Go.RowKit Go.Shelf
set_option maxHeartbeats 16000000
theorem zee {ops : Array Oper} {rest : List Oper} {o : Oper} {a : Act} {w : World} {Q : Exit -> Act -> World -> Prop} (hgd : o.guard = none) (hd : o.dst = none) (p x : Operand) (ho : o.op = .store 26 p x)
 (g : Nat) (hp : a.eval p = .pointer (some ⟨g, 0, none⟩)) (c' : Array Value) (hx : a.eval x = .agg c') (c : Array Value) (hrow : zgy w g c) (hc : c.size = 11) (hc' : c'.size = 11) (h1 : c'.all (·.oneCell') = true)
 (h : ∀ w', zgy w' g c' -> w.grownBy w' (some g) -> wpList Tryz.prog ops Q rest a w') : wpList Tryz.prog ops Q (o :: rest) a w :=
 za0 w hgd hd _ p x ho g hp c' hx _ c hrow (by rw [hc']; exact zgx) (by rw [hc, hc']) h1 h
def hz : Array Value := hc 0 ⟨#[]⟩ 0 z8
def zef (F : FuncId) : Prop := ∀ (s : ByteArray) (w : World), s.size <= 1000000000 -> Calls Tryz.prog F #[.string s] w fun e w' => e = .returned (.tuple #[.int .u32 (aV (pnL (ls s))), .bool (aK (pnL (ls s)))]) /\ Below w.heap.size w w'
def zeg (F : FuncId) : Prop := ∀ (s : ByteArray) (w : World), s.size <= 1000000000 -> zw5 w -> Calls Tryz.prog F #[.string s] w fun e w' => e = .returned (.tuple #[.agg (av (zkn (znu (ls s)))), .bool (znu (ls s)).isSome]) /\ Below w.heap.size w w'
def zeh (w : World) (q : Nat × Hv) (e : Ending) (w' : World) : Prop := e = .returned (.tuple #[.agg q.2.cells, .int .i64 (q.1 : Nat)]) /\ Below w.heap.size w w'
def pN (l : List UInt8) : Nat × Hv := match pnL l with
 | none => (14, hv0)
 | some v => (0, hv4 v)
def pB (l : List UInt8) : Nat × Hv := if l.getLast? = some 93 then (match znu l.dropLast with
 | none => (14, hv0)
 | some g => (0, hv6 g)) else (14, hv0)
def jN (q : List (List UInt8)) : Nat × Hv := if 253 < (z3k 46 q).length then (3, hv0) else if zqk (z3k 46 q) = true then (14, hv0) else (0, hvD (z3k 46 q))
theorem zei (hP : zef 149) (s : ByteArray) (w : World) (hs : s.size <= 1000000000) : Calls Tryz.prog 112 #[.string s] w (zeh w (pN (ls s))) := by
 have c := fun W => hP s W hs
 unfold pN
 have hr0 : zgy (w.alloc (.cells hz 26)) w.heap.size hz := zat w _ _
 have hb0 : Below w.heap.size w (w.alloc (.cells hz 26)) := (Below.refl _ _).alloc jH _
 cases hp : pnL (ls s) with
 | none =>
   rw [hp] at c
   clear hp
   go_enter Tryz.func112, Tryz.ntmps112
   go_wp2_with fail
   refine (c _).mono ?_
   rintro e w1 ⟨rfl, hb1⟩
   have hr1 : zgy w1 w.heap.size hz := Row.below hr0 hb1 hr0.lt
   replace hb1 := hb0.trans (hb1.mono hb0.size)
   clear hr0 hb0
   go_wp2_with (refine zee rfl rfl _ _ rfl w.heap.size (by exact rfl) hz (by exact rfl) _ hr1 rfl rfl (zgv _ _ _ _) ?_; intro w2 hr2 hg2)
   exact zg1 2 3 rfl w.heap.size rfl hz hr2 rfl _ rfl rfl ⟨rfl, zau hb1 hg2 jH jH⟩
 | some v =>
   rw [hp] at c
   have c2 := fun W => zg4 (v : Nat) W
   rw [show aV (some v) = (v : Int) from rfl, show aK (some v) = true from rfl] at c
   clear hp
   go_enter Tryz.func112, Tryz.ntmps112
   go_wp2_with fail
   refine (c _).mono ?_
   rintro e w1 ⟨rfl, hb1⟩
   have hr1 : zgy w1 w.heap.size hz := Row.below hr0 hb1 hr0.lt
   replace hb1 := hb0.trans (hb1.mono hb0.size)
   clear hr0 hb0
   go_wp2_with fail
   refine (c2 _).mono ?_
   rintro e w2 ⟨rfl, hb2⟩
   replace hr1 : zgy w2 w.heap.size hz := Row.below hr1 hb2 hr1.lt
   replace hb2 := hb1.trans (hb2.mono hb1.size)
   clear hb1
   go_wp2_with (refine zee rfl rfl _ _ rfl w.heap.size (by exact rfl) (hc 2 ⟨#[]⟩ (v : Nat) z8) (by exact rfl) _ hr1 rfl rfl (zgv _ _ _ _) ?_; intro w3 hr3 hg3)
   exact zg1 2 3 rfl w.heap.size rfl (hc 2 ⟨#[]⟩ (v : Nat) z8) hr3 rfl _ rfl rfl ⟨rfl, zau hb2 hg3 jH jH⟩
theorem zej (hN : zd1 111) (L : List (List UInt8)) (A : Option Addr) (c B : Nat) (w : World) (h : Has w B A L.length (wv L)) (hB : B <= w.heap.size) (hcp : L.length <= c) (hL : L.length <= 1000000000) (hlen : (z3k 46 L).length <= 1000000000) :
 Calls Tryz.prog 151 #[.slice A L.length c] w (zeh w (jN L)) := by
 have hr0 : zgy (w.alloc (.cells hz 26)) w.heap.size hz := zat w _ _
 have hb0 : Below w.heap.size w (w.alloc (.cells hz 26)) := (Below.refl _ _).alloc jH _
 have c1 := zgg L A c B (w.alloc (.cells hz 26)) (h.alloc hB _) (by simp; omega) hcp hL (by omega)
 have c2 := fun W => hN (bs (z3k 46 L)) W (by rw [zb5]; exact hlen)
 have c3 := fun W => zg3 (bs (z3k 46 L)) W
 have hz1 : (bs (z3k 46 L)).size = (z3k 46 L).length := zb5 _
 rw [zb0] at c2
 unfold jN
 have hD : (hvD (z3k 46 L)).cells = hc 1 (bs (z3k 46 L)) 0 z8 := rfl
 by_cases h1 : 253 < (z3k 46 L).length
 ·rw [if_pos h1]
  have hd : decide ((253 : Int) < ((bs (z3k 46 L)).size : Int)) = true := jT (by omega)
  obtain ⟨X, hX⟩ : ∃ X, X = bs (z3k 46 L) := ⟨_, rfl⟩
  rw [<- hX] at c1 hd
  clear hX c2 c3 hz1 hD h1 h hL hlen hcp
  go_enter Tryz.func151, Tryz.ntmps151
  go_wp2_with fail
  refine c1.mono ?_
  rintro e w1 ⟨rfl, hb1⟩
  have hr1 : zgy w1 w.heap.size hz := Row.below hr0 hb1 hr0.lt
  replace hb1 := hb0.trans (hb1.mono hb0.size)
  clear hr0 hb0 c1
  go_wp2_with (refine zee rfl rfl _ _ rfl w.heap.size (by exact rfl) hz (by exact rfl) _ hr1 rfl rfl (zgv _ _ _ _) ?_; intro w2 hr2 hg2)
  exact zg1 2 3 rfl w.heap.size rfl hz hr2 rfl _ rfl rfl ⟨rfl, zau hb1 hg2 jH jH⟩
 ·rw [if_neg h1]
  have hd : decide ((253 : Int) < ((bs (z3k 46 L)).size : Int)) = false := jF (by omega)
  cases hq : zqk (z3k 46 L) with
  | true =>
    rw [if_pos rfl]
    rw [hq] at c2
    obtain ⟨X, hX⟩ : ∃ X, X = bs (z3k 46 L) := ⟨_, rfl⟩
    rw [<- hX] at c1 hd
    simp only [<- hX] at c2
    clear hX c3 hz1 hD h1 h hL hlen hcp hq
    go_enter Tryz.func151, Tryz.ntmps151
    go_wp2_with fail
    refine c1.mono ?_
    rintro e w1 ⟨rfl, hb1⟩
    have hr1 : zgy w1 w.heap.size hz := Row.below hr0 hb1 hr0.lt
    replace hb1 := hb0.trans (hb1.mono hb0.size)
    clear hr0 hb0 c1
    go_wp2_with fail
    refine (c2 _).mono ?_
    rintro e w2 ⟨rfl, hb2⟩
    replace hr1 : zgy w2 w.heap.size hz := Row.below hr1 hb2 hr1.lt
    replace hb2 := hb1.trans (hb2.mono hb1.size)
    clear hb1
    go_wp2_with (refine zee rfl rfl _ _ rfl w.heap.size (by exact rfl) hz (by exact rfl) _ hr1 rfl rfl (zgv _ _ _ _) ?_; intro w3 hr3 hg3)
    exact zg1 2 3 rfl w.heap.size rfl hz hr3 rfl _ rfl rfl ⟨rfl, zau hb2 hg3 jH jH⟩
  | false =>
    rw [if_neg (by simp)]
    unfold zeh
    rw [hD]
    rw [hq] at c2
    obtain ⟨X, hX⟩ : ∃ X, X = bs (z3k 46 L) := ⟨_, rfl⟩
    rw [<- hX] at c1 hd ⊢
    simp only [<- hX] at c2 c3
    clear hX hz1 hD h1 h hL hlen hcp hq
    go_enter Tryz.func151, Tryz.ntmps151
    go_wp2_with fail
    refine c1.mono ?_
    rintro e w1 ⟨rfl, hb1⟩
    have hr1 : zgy w1 w.heap.size hz := Row.below hr0 hb1 hr0.lt
    replace hb1 := hb0.trans (hb1.mono hb0.size)
    clear hr0 hb0 c1
    go_wp2_with fail
    refine (c2 _).mono ?_
    rintro e w2 ⟨rfl, hb2⟩
    replace hr1 : zgy w2 w.heap.size hz := Row.below hr1 hb2 hr1.lt
    replace hb2 := hb1.trans (hb2.mono hb1.size)
    clear hb1
    go_wp2_with fail
    refine (c3 _).mono ?_
    rintro e w3 ⟨rfl, hb3⟩
    replace hr1 : zgy w3 w.heap.size hz := Row.below hr1 hb3 hr1.lt
    replace hb3 := hb2.trans (hb3.mono hb2.size)
    clear hb2
    go_wp2_with (refine zee rfl rfl _ _ rfl w.heap.size (by exact rfl) (hc 1 X 0 z8) (by exact rfl) _ hr1 rfl rfl (zgv _ _ _ _) ?_; intro w4 hr4 hg4)
    exact zg1 2 3 rfl w.heap.size rfl (hc 1 X 0 z8) hr4 rfl _ rfl rfl ⟨rfl, zau hb3 hg4 jH jH⟩
end

section
open Go.RowKit Go.Shelf
set_option maxHeartbeats 16000000
def zft (F : FuncId) : Prop := ∀ (h : Hv) (w : World), h.Wf -> h.name.length <= 1000000000 -> Calls Tryz.prog F #[h.val] w fun e w' => e = .returned (.bool (zhx h)) /\ Below w.heap.size w w'
theorem zfu {W : World} {B : Nat} {k : Int} {N : ByteArray} {v x0 x1 x2 x3 x4 x5 x6 x7 : Nat} (h : zgy W B #[.int .i64 k, .string N, .int .u32 (v : Nat), .int .u16 (x0 : Nat), .int .u16 (x1 : Nat), .int .u16 (x2 : Nat), .int .u16 (x3 : Nat), .int .u16 (x4 : Nat), .int .u16 (x5 : Nat), .int .u16 (x6 : Nat), .int .u16 (x7 : Nat)]) : W.cell? ⟨B, 0, none⟩ = some (.int .i64 k) /\ W.cell? ⟨B, 1, none⟩ = some (.string N) /\ W.cell? ⟨B, 2, none⟩ = some (.int .u32 (v : Nat)) /\ W.cell? ⟨B, 3, none⟩ = some (.int .u16 (x0 : Nat)) /\ W.cell? ⟨B, 4, none⟩ = some (.int .u16 (x1 : Nat)) /\ W.cell? ⟨B, 5, none⟩ = some (.int .u16 (x2 : Nat)) /\ W.cell? ⟨B, 6, none⟩ = some (.int .u16 (x3 : Nat)) /\ W.cell? ⟨B, 7, none⟩ = some (.int .u16 (x4 : Nat)) /\ W.cell? ⟨B, 8, none⟩ = some (.int .u16 (x5 : Nat)) /\ W.cell? ⟨B, 9, none⟩ = some (.int .u16 (x6 : Nat)) /\ W.cell? ⟨B, 10, none⟩ = some (.int .u16 (x7 : Nat)) :=
 ⟨Row.cell h (k := 0) (by simp), Row.cell h (k := 1) (by simp), Row.cell h (k := 2) (by simp), Row.cell h (k := 3) (by simp), Row.cell h (k := 4) (by simp), Row.cell h (k := 5) (by simp), Row.cell h (k := 6) (by simp), Row.cell h (k := 7) (by simp), Row.cell h (k := 8) (by simp), Row.cell h (k := 9) (by simp), Row.cell h (k := 10) (by simp)⟩
theorem zfv {W X : World} {B : Nat} (h : Below B W.drew X) : Below B W X := ⟨h.os, h.tape, h.output, h.size, h.block⟩
set_option maxRecDepth 20000 in
theorem zfw (hV : zd3 64) : zft 43 := by
 intro h w hw hn
 obtain ⟨k, n, v, g⟩ := h
 obtain ⟨hv4, hg8, hg⟩ := hw
 simp only at hv4 hg8 hg hn
 obtain ⟨x0, x1, x2, x3, x4, x5, x6, x7, rfl⟩ := zf5 g hg8
 have eV : (Hv.mk k n v [x0, x1, x2, x3, x4, x5, x6, x7]).val = .agg #[.int .i64 k, .string (bs n), .int .u32 (v : Nat), .int .u16 (x0 : Nat), .int .u16 (x1 : Nat), .int .u16 (x2 : Nat), .int .u16 (x3 : Nat), .int .u16 (x4 : Nat), .int .u16 (x5 : Nat), .int .u16 (x6 : Nat), .int .u16 (x7 : Nat)] := rfl
 rw [eV]
 have c1 := fun W => hV (bs n) W (by rw [zb5]; exact hn)
 rw [zb0] at c1
 have hr : ∀ W : World, zgy (W.alloc (.cells #[.int .i64 k, .string (bs n), .int .u32 (v : Nat), .int .u16 (x0 : Nat), .int .u16 (x1 : Nat), .int .u16 (x2 : Nat), .int .u16 (x3 : Nat), .int .u16 (x4 : Nat), .int .u16 (x5 : Nat), .int .u16 (x6 : Nat), .int .u16 (x7 : Nat)] 26)) W.heap.size #[.int .i64 k, .string (bs n), .int .u32 (v : Nat), .int .u16 (x0 : Nat), .int .u16 (x1 : Nat), .int .u16 (x2 : Nat), .int .u16 (x3 : Nat), .int .u16 (x4 : Nat), .int .u16 (x5 : Nat), .int .u16 (x6 : Nat), .int .u16 (x7 : Nat)] := fun W => zat W _ _
 by_cases kk : k = 1
 ·skip
  subst kk
  have c2 := fun W => zg3 (bs n) W
  have heq := zf7 1 1 (bs n) (bs n) (v : Nat) 0 [x0, x1, x2, x3, x4, x5, x6, x7] z8 rfl rfl
  have e8 : hc 1 (bs n) (v : Nat) [x0, x1, x2, x3, x4, x5, x6, x7] = #[.int .i64 1, .string (bs n), .int .u32 (v : Nat), .int .u16 (x0 : Nat), .int .u16 (x1 : Nat), .int .u16 (x2 : Nat), .int .u16 (x3 : Nat), .int .u16 (x4 : Nat), .int .u16 (x5 : Nat), .int .u16 (x6 : Nat), .int .u16 (x7 : Nat)] := rfl
  rw [e8] at heq
  obtain ⟨q, hq⟩ : ∃ q, q = decide ((1 : Int) = 1 /\ (bs n).toList = (bs n).toList /\ ((v : Nat) : Int) = 0 /\ [x0, x1, x2, x3, x4, x5, x6, x7] = z8) := ⟨_, rfl⟩
  obtain ⟨q2, hq2⟩ : ∃ q, q = vnL n := ⟨_, rfl⟩
  have HV : Hid (zhx ⟨1, n, v, [x0, x1, x2, x3, x4, x5, x6, x7]⟩ = (q && q2)) := by
   show _ = _
   unfold zhx
   rw [if_pos rfl, hq, <- hq2, Bool.eq_iff_iff]
   simp only [Bool.and_eq_true, beq_iff_eq, decide_eq_true_eq]
   constructor
   ·rintro ⟨⟨a, b⟩, c⟩
    exact ⟨⟨trivial, trivial, by omega, c⟩, a⟩
   ·rintro ⟨⟨_, _, b, c⟩, a⟩
    exact ⟨⟨a, by omega⟩, c⟩
  rw [<- hq2] at c1
  clear hq2
  rw [<- hq] at heq
  obtain ⟨Z, hZ⟩ : ∃ Z, Z = hc 1 (bs n) 0 z8 := ⟨_, rfl⟩
  simp only [<- hZ] at heq c2
  obtain ⟨N, hN⟩ : ∃ N, N = bs n := ⟨_, rfl⟩
  simp only [<- hN] at heq c1 c2 hr ⊢
  clear hZ hq hN e8 eV hn hg hg8 hv4
  obtain ⟨B, hB⟩ : ∃ b, b = w.heap.size := ⟨_, rfl⟩
  go_enter Tryz.func43, Tryz.ntmps43
  go_upto_region 4 with fail
  obtain ⟨W1, hW1⟩ : ∃ x, x = w.alloc (.cells #[.int .i64 1, .string N, .int .u32 (v : Nat), .int .u16 (x0 : Nat), .int .u16 (x1 : Nat), .int .u16 (x2 : Nat), .int .u16 (x3 : Nat), .int .u16 (x4 : Nat), .int .u16 (x5 : Nat), .int .u16 (x6 : Nat), .int .u16 (x7 : Nat)] 26) := ⟨_, rfl⟩
  have hr1 : zgy W1 B #[.int .i64 1, .string N, .int .u32 (v : Nat), .int .u16 (x0 : Nat), .int .u16 (x1 : Nat), .int .u16 (x2 : Nat), .int .u16 (x3 : Nat), .int .u16 (x4 : Nat), .int .u16 (x5 : Nat), .int .u16 (x6 : Nat), .int .u16 (x7 : Nat)] := by rw [hW1, hB]; exact hr w
  have hb1 : Below w.heap.size w W1 := by rw [hW1]; exact (Below.refl _ _).alloc jH _
  have hlt : B < W1.heap.size := hr1.lt
  rw [<- hW1, <- hB]
  clear hW1 hr hB
  obtain ⟨p0, p1, p2, p3, p4, p5, p6, p7, p8, p9, p10⟩ := zfu hr1
  have HB := jL hb1
  clear hb1
  cases q with
  | true =>
    go_region_held3 (fun W => W.cell? ⟨B, 0, none⟩ = some (.int .i64 1) /\ W.cell? ⟨B, 1, none⟩ = some (.string N) /\ W.cell? ⟨B, 2, none⟩ = some (.int .u32 (v : Nat)) /\ W.cell? ⟨B, 3, none⟩ = some (.int .u16 (x0 : Nat)) /\ W.cell? ⟨B, 4, none⟩ = some (.int .u16 (x1 : Nat)) /\ W.cell? ⟨B, 5, none⟩ = some (.int .u16 (x2 : Nat)) /\ W.cell? ⟨B, 6, none⟩ = some (.int .u16 (x3 : Nat)) /\ W.cell? ⟨B, 7, none⟩ = some (.int .u16 (x4 : Nat)) /\ W.cell? ⟨B, 8, none⟩ = some (.int .u16 (x5 : Nat)) /\ W.cell? ⟨B, 9, none⟩ = some (.int .u16 (x6 : Nat)) /\ W.cell? ⟨B, 10, none⟩ = some (.int .u16 (x7 : Nat))) (first | exact ⟨p0, p1, p2, p3, p4, p5, p6, p7, p8, p9, p10⟩ | go_keep)
     (first
       | (go_at_call 63
          refine (c2 _).mono ?_
          rintro e wA ⟨rfl, hbA⟩
          have hrA := Row.below (show Row W1.drew B 26 _ from hr1) hbA hlt
          clear p0 p1 p2 p3 p4 p5 p6 p7 p8 p9 p10
          obtain ⟨p0, p1, p2, p3, p4, p5, p6, p7, p8, p9, p10⟩ := zfu hrA
          clear c2)
       | (go_at_call 64
          refine (c1 _).mono ?_
          rintro e wB ⟨rfl, hbB⟩
          have hrB := Row.below hrA hbB hrA.lt
          clear p0 p1 p2 p3 p4 p5 p6 p7 p8 p9 p10
          obtain ⟨p0, p1, p2, p3, p4, p5, p6, p7, p8, p9, p10⟩ := zfu hrB
          clear c1))
    go_wp2
    go_ret
    exact ⟨zbx (by rw [HV.out]; simp), HB.out.trans ((zfv (hbA.trans (hbB.mono hbA.size))).mono HB.out.size)⟩
  | false =>
    have hrd : zgy W1.drew B #[.int .i64 1, .string N, .int .u32 (v : Nat), .int .u16 (x0 : Nat), .int .u16 (x1 : Nat), .int .u16 (x2 : Nat), .int .u16 (x3 : Nat), .int .u16 (x4 : Nat), .int .u16 (x5 : Nat), .int .u16 (x6 : Nat), .int .u16 (x7 : Nat)] := hr1
    refine wp_region_held_drew (S := fun W => zgy W B #[.int .i64 1, .string N, .int .u32 (v : Nat), .int .u16 (x0 : Nat), .int .u16 (x1 : Nat), .int .u16 (x2 : Nat), .int .u16 (x3 : Nat), .int .u16 (x4 : Nat), .int .u16 (x5 : Nat), .int .u16 (x6 : Nat), .int .u16 (x7 : Nat)]) (by kernel_rfl) hrd (fun _ => ?_)
    refine wpAnyH_take (i := 0) (v := .agg #[.int .i64 1, .string N, .int .u32 (v : Nat), .int .u16 (x0 : Nat), .int .u16 (x1 : Nat), .int .u16 (x2 : Nat), .int .u16 (x3 : Nat), .int .u16 (x4 : Nat), .int .u16 (x5 : Nat), .int .u16 (x6 : Nat), .int .u16 (x7 : Nat)]) rfl (by kernel_rfl) (by kernel_rfl) (by kernel_rfl) (fun _ _ _ h => h) (Or.inl ⟨by rfl, fun W hW => by obtain ⟨h0, h1, h2, h3, h4, h5, h6, h7, h8, h9, h10⟩ := zfu hW; go_simp; try (with_reducible rfl)⟩) hrd ?_
    try simp only [Act.put, List.getElem_toArray, List.getElem_cons_zero, jqd, jqe, jqf]
    refine wpAnyH_take (i := 1) (v := .pointer (some ⟨B, 1, none⟩)) rfl (by kernel_rfl) (by kernel_rfl) (by kernel_rfl) (fun _ _ _ h => h) (Or.inl ⟨by rfl, fun W hW => by go_simp; try (with_reducible rfl)⟩) hrd ?_
    try simp only [Act.put, List.getElem_toArray, List.getElem_cons_zero, List.getElem_cons_succ, jqd, jqe, jqf]
    refine wpAnyH_take (i := 2) (v := .string N) rfl (by kernel_rfl) (by kernel_rfl) (by kernel_rfl) (fun _ _ _ h => h) (Or.inl ⟨by rfl, fun W hW => by have h9 := (zfu hW).2.1; go_simp; try (with_reducible rfl)⟩) hrd ?_
    try simp only [Act.put, List.getElem_toArray, List.getElem_cons_zero, List.getElem_cons_succ, jqd, jqe, jqf]
    refine wpAnyH_ready (rs := [3]) (by kernel_rfl) (by simp) (AllReadyH.cons rfl (fun K hK => ?_) AllReadyH.nil)
    go_simp
    go_wp2_with fail
    refine (c2 _).mono ?_
    rintro e wA ⟨rfl, hbA⟩
    have hrA : zgy wA B #[.int .i64 1, .string N, .int .u32 (v : Nat), .int .u16 (x0 : Nat), .int .u16 (x1 : Nat), .int .u16 (x2 : Nat), .int .u16 (x3 : Nat), .int .u16 (x4 : Nat), .int .u16 (x5 : Nat), .int .u16 (x6 : Nat), .int .u16 (x7 : Nat)] := Row.below hrd hbA hlt
    refine hK.out _ _ hrA (fun _ => ?_)
    clear hK K
    try simp only [Act.put, List.getElem_toArray, List.getElem_cons_zero, List.getElem_cons_succ, jqd, jqe, jqf]
    refine wpAnyH_take (i := 4) (v := .bool false) rfl (by kernel_rfl) (by kernel_rfl) (by kernel_rfl) (fun _ _ _ h => h) (Or.inl ⟨by rfl, fun W hW => by go_simp; try (with_reducible rfl)⟩) hrA ?_
    try simp only [Act.put, List.getElem_toArray, List.getElem_cons_zero, List.getElem_cons_succ, jqd, jqe, jqf]
    refine wpAnyH_take (i := 5) (v := .bool false) rfl (by kernel_rfl) (by kernel_rfl) (by kernel_rfl) (fun _ _ _ h => h) (Or.inl ⟨by rfl, fun W hW => by go_simp; try (with_reducible rfl)⟩) hrA ?_
    try simp only [Act.put, List.getElem_toArray, List.getElem_cons_zero, List.getElem_cons_succ, jqd, jqe, jqf]
    refine wpAnyH_take (i := 6) (v := undef) rfl (by kernel_rfl) (by kernel_rfl) (by kernel_rfl) (fun _ _ _ h => h) (Or.inr ⟨by rfl, rfl⟩) hrA ?_
    try simp only [Act.put, List.getElem_toArray, List.getElem_cons_zero, List.getElem_cons_succ, jqd, jqe, jqf]
    refine wpAnyH_take (i := 7) (v := undef) rfl (by kernel_rfl) (by kernel_rfl) (by kernel_rfl) (fun _ _ _ h => h) (Or.inr ⟨by rfl, rfl⟩) hrA ?_
    try simp only [Act.put, List.getElem_toArray, List.getElem_cons_zero, List.getElem_cons_succ, jqd, jqe, jqf]
    refine wpAnyH_take (i := 8) (v := undef) rfl (by kernel_rfl) (by kernel_rfl) (by kernel_rfl) (fun _ _ _ h => h) (Or.inr ⟨by rfl, rfl⟩) hrA ?_
    try simp only [Act.put, List.getElem_toArray, List.getElem_cons_zero, List.getElem_cons_succ, jqd, jqe, jqf]
    refine wpAnyH_take (i := 9) (v := .bool false) rfl (by kernel_rfl) (by kernel_rfl) (by kernel_rfl) (fun _ _ _ h => h) (Or.inl ⟨by rfl, fun W hW => by go_simp; try (with_reducible rfl)⟩) hrA ?_
    try simp only [Act.put, List.getElem_toArray, List.getElem_cons_zero, List.getElem_cons_succ, jqd, jqe, jqf]
    refine wpAnyH_take (i := 10) (v := .bool false) rfl (by kernel_rfl) (by kernel_rfl) (by kernel_rfl) (fun _ _ _ h => h) (Or.inl ⟨by rfl, fun W hW => by go_simp; try (with_reducible rfl)⟩) hrA ?_
    try simp only [Act.put, List.getElem_toArray, List.getElem_cons_zero, List.getElem_cons_succ, jqd, jqe, jqf]
    refine wpAnyH_done (by kernel_rfl) ?_ _
    go_wp2
    go_ret
    exact ⟨by rw [HV.out]; rfl, HB.out.trans ((zfv hbA).mono HB.out.size)⟩
 by_cases kk : k = 2
 ·skip
  subst kk
  have c2 := fun W => zg4 (v : Nat) W
  have heq := zf7 2 2 (bs n) (⟨#[]⟩ : ByteArray) (v : Nat) (v : Nat) [x0, x1, x2, x3, x4, x5, x6, x7] z8 rfl rfl
  have e8 : hc 2 (bs n) (v : Nat) [x0, x1, x2, x3, x4, x5, x6, x7] = #[.int .i64 2, .string (bs n), .int .u32 (v : Nat), .int .u16 (x0 : Nat), .int .u16 (x1 : Nat), .int .u16 (x2 : Nat), .int .u16 (x3 : Nat), .int .u16 (x4 : Nat), .int .u16 (x5 : Nat), .int .u16 (x6 : Nat), .int .u16 (x7 : Nat)] := rfl
  rw [e8] at heq
  obtain ⟨q, hq⟩ : ∃ q, q = decide ((2 : Int) = 2 /\ (bs n).toList = (⟨#[]⟩ : ByteArray).toList /\ ((v : Nat) : Int) = (v : Nat) /\ [x0, x1, x2, x3, x4, x5, x6, x7] = z8) := ⟨_, rfl⟩
  have HV : Hid (zhx ⟨2, n, v, [x0, x1, x2, x3, x4, x5, x6, x7]⟩ = q) := by
   show _ = _
   unfold zhx
   rw [if_neg (by show ¬ ((2 : Int) = 1); decide), if_pos rfl, hq, Bool.eq_iff_iff]
   simp only [Bool.and_eq_true, beq_iff_eq, decide_eq_true_eq, List.isEmpty_iff, zb3, zb0, show ls (⟨#[]⟩ : ByteArray) = [] from rfl]
   constructor
   ·rintro ⟨a, c⟩
    exact ⟨trivial, a, trivial, c⟩
   ·rintro ⟨_, a, _, c⟩
    exact ⟨a, c⟩
  rw [<- hq] at heq
  obtain ⟨Z, hZ⟩ : ∃ Z, Z = hc 2 (⟨#[]⟩ : ByteArray) (v : Nat) z8 := ⟨_, rfl⟩
  simp only [<- hZ] at heq c2
  obtain ⟨N, hN⟩ : ∃ N, N = bs n := ⟨_, rfl⟩
  simp only [<- hN] at heq c1 c2 hr ⊢
  clear hZ hq hN e8 eV hn hg hg8 hv4
  obtain ⟨B, hB⟩ : ∃ b, b = w.heap.size := ⟨_, rfl⟩
  go_enter Tryz.func43, Tryz.ntmps43
  go_upto_region 6 with fail
  obtain ⟨W1, hW1⟩ : ∃ x, x = w.alloc (.cells #[.int .i64 2, .string N, .int .u32 (v : Nat), .int .u16 (x0 : Nat), .int .u16 (x1 : Nat), .int .u16 (x2 : Nat), .int .u16 (x3 : Nat), .int .u16 (x4 : Nat), .int .u16 (x5 : Nat), .int .u16 (x6 : Nat), .int .u16 (x7 : Nat)] 26) := ⟨_, rfl⟩
  have hr1 : zgy W1 B #[.int .i64 2, .string N, .int .u32 (v : Nat), .int .u16 (x0 : Nat), .int .u16 (x1 : Nat), .int .u16 (x2 : Nat), .int .u16 (x3 : Nat), .int .u16 (x4 : Nat), .int .u16 (x5 : Nat), .int .u16 (x6 : Nat), .int .u16 (x7 : Nat)] := by rw [hW1, hB]; exact hr w
  have hb1 : Below w.heap.size w W1 := by rw [hW1]; exact (Below.refl _ _).alloc jH _
  have hlt : B < W1.heap.size := hr1.lt
  rw [<- hW1, <- hB]
  clear hW1 hr hB
  obtain ⟨p0, p1, p2, p3, p4, p5, p6, p7, p8, p9, p10⟩ := zfu hr1
  have HB := jL hb1
  clear hb1
  ·skip
   go_region_held3 (fun W => W.cell? ⟨B, 0, none⟩ = some (.int .i64 2) /\ W.cell? ⟨B, 1, none⟩ = some (.string N) /\ W.cell? ⟨B, 2, none⟩ = some (.int .u32 (v : Nat)) /\ W.cell? ⟨B, 3, none⟩ = some (.int .u16 (x0 : Nat)) /\ W.cell? ⟨B, 4, none⟩ = some (.int .u16 (x1 : Nat)) /\ W.cell? ⟨B, 5, none⟩ = some (.int .u16 (x2 : Nat)) /\ W.cell? ⟨B, 6, none⟩ = some (.int .u16 (x3 : Nat)) /\ W.cell? ⟨B, 7, none⟩ = some (.int .u16 (x4 : Nat)) /\ W.cell? ⟨B, 8, none⟩ = some (.int .u16 (x5 : Nat)) /\ W.cell? ⟨B, 9, none⟩ = some (.int .u16 (x6 : Nat)) /\ W.cell? ⟨B, 10, none⟩ = some (.int .u16 (x7 : Nat))) (first | exact ⟨p0, p1, p2, p3, p4, p5, p6, p7, p8, p9, p10⟩ | go_keep)
    (first
      | (go_at_call 65
         refine (c2 _).mono ?_
         rintro e wA ⟨rfl, hbA⟩
         have hrA := Row.below (show Row W1.drew B 26 _ from hr1) hbA hlt
         clear p0 p1 p2 p3 p4 p5 p6 p7 p8 p9 p10
         obtain ⟨p0, p1, p2, p3, p4, p5, p6, p7, p8, p9, p10⟩ := zfu hrA
         clear c2))
   go_wp2
   go_ret
   exact ⟨zbx HV.out.symm, HB.out.trans ((zfv hbA).mono HB.out.size)⟩
 by_cases kk : k = 3
 ·skip
  subst kk
  have c2 := fun W => zg5 [x0, x1, x2, x3, x4, x5, x6, x7] rfl W
  have heq := zf7 3 3 (bs n) (⟨#[]⟩ : ByteArray) (v : Nat) 0 [x0, x1, x2, x3, x4, x5, x6, x7] [x0, x1, x2, x3, x4, x5, x6, x7] rfl rfl
  have e8 : hc 3 (bs n) (v : Nat) [x0, x1, x2, x3, x4, x5, x6, x7] = #[.int .i64 3, .string (bs n), .int .u32 (v : Nat), .int .u16 (x0 : Nat), .int .u16 (x1 : Nat), .int .u16 (x2 : Nat), .int .u16 (x3 : Nat), .int .u16 (x4 : Nat), .int .u16 (x5 : Nat), .int .u16 (x6 : Nat), .int .u16 (x7 : Nat)] := rfl
  rw [e8] at heq
  obtain ⟨q, hq⟩ : ∃ q, q = decide ((3 : Int) = 3 /\ (bs n).toList = (⟨#[]⟩ : ByteArray).toList /\ ((v : Nat) : Int) = 0 /\ [x0, x1, x2, x3, x4, x5, x6, x7] = [x0, x1, x2, x3, x4, x5, x6, x7]) := ⟨_, rfl⟩
  have HV : Hid (zhx ⟨3, n, v, [x0, x1, x2, x3, x4, x5, x6, x7]⟩ = q) := by
   show _ = _
   unfold zhx
   rw [if_neg (by show ¬ ((3 : Int) = 1); decide), if_neg (by show ¬ ((3 : Int) = 2); decide), if_pos rfl, hq, Bool.eq_iff_iff]
   simp only [Bool.and_eq_true, beq_iff_eq, decide_eq_true_eq, List.isEmpty_iff, zb3, zb0, show ls (⟨#[]⟩ : ByteArray) = [] from rfl]
   constructor
   ·rintro ⟨a, c⟩
    exact ⟨trivial, a, by omega, trivial⟩
   ·rintro ⟨_, a, c, _⟩
    exact ⟨a, by omega⟩
  rw [<- hq] at heq
  obtain ⟨Z, hZ⟩ : ∃ Z, Z = hc 3 (⟨#[]⟩ : ByteArray) 0 [x0, x1, x2, x3, x4, x5, x6, x7] := ⟨_, rfl⟩
  simp only [<- hZ] at heq c2
  obtain ⟨N, hN⟩ : ∃ N, N = bs n := ⟨_, rfl⟩
  simp only [<- hN] at heq c1 c2 hr ⊢
  clear hZ hq hN e8 eV hn hg hg8 hv4
  obtain ⟨B, hB⟩ : ∃ b, b = w.heap.size := ⟨_, rfl⟩
  go_enter Tryz.func43, Tryz.ntmps43
  go_upto_region 8 with fail
  obtain ⟨W1, hW1⟩ : ∃ x, x = w.alloc (.cells #[.int .i64 3, .string N, .int .u32 (v : Nat), .int .u16 (x0 : Nat), .int .u16 (x1 : Nat), .int .u16 (x2 : Nat), .int .u16 (x3 : Nat), .int .u16 (x4 : Nat), .int .u16 (x5 : Nat), .int .u16 (x6 : Nat), .int .u16 (x7 : Nat)] 26) := ⟨_, rfl⟩
  have hr1 : zgy W1 B #[.int .i64 3, .string N, .int .u32 (v : Nat), .int .u16 (x0 : Nat), .int .u16 (x1 : Nat), .int .u16 (x2 : Nat), .int .u16 (x3 : Nat), .int .u16 (x4 : Nat), .int .u16 (x5 : Nat), .int .u16 (x6 : Nat), .int .u16 (x7 : Nat)] := by rw [hW1, hB]; exact hr w
  have hb1 : Below w.heap.size w W1 := by rw [hW1]; exact (Below.refl _ _).alloc jH _
  have hlt : B < W1.heap.size := hr1.lt
  rw [<- hW1, <- hB]
  clear hW1 hr hB
  obtain ⟨p0, p1, p2, p3, p4, p5, p6, p7, p8, p9, p10⟩ := zfu hr1
  have HB := jL hb1
  clear hb1
  ·skip
   go_region_held3 (fun W => W.cell? ⟨B, 0, none⟩ = some (.int .i64 3) /\ W.cell? ⟨B, 1, none⟩ = some (.string N) /\ W.cell? ⟨B, 2, none⟩ = some (.int .u32 (v : Nat)) /\ W.cell? ⟨B, 3, none⟩ = some (.int .u16 (x0 : Nat)) /\ W.cell? ⟨B, 4, none⟩ = some (.int .u16 (x1 : Nat)) /\ W.cell? ⟨B, 5, none⟩ = some (.int .u16 (x2 : Nat)) /\ W.cell? ⟨B, 6, none⟩ = some (.int .u16 (x3 : Nat)) /\ W.cell? ⟨B, 7, none⟩ = some (.int .u16 (x4 : Nat)) /\ W.cell? ⟨B, 8, none⟩ = some (.int .u16 (x5 : Nat)) /\ W.cell? ⟨B, 9, none⟩ = some (.int .u16 (x6 : Nat)) /\ W.cell? ⟨B, 10, none⟩ = some (.int .u16 (x7 : Nat))) (first | exact ⟨p0, p1, p2, p3, p4, p5, p6, p7, p8, p9, p10⟩ | go_keep)
    (first
      | (go_at_call 66
         refine (c2 _).mono ?_
         rintro e wA ⟨rfl, hbA⟩
         have hrA := Row.below (show Row W1.drew B 26 _ from hr1) hbA hlt
         clear p0 p1 p2 p3 p4 p5 p6 p7 p8 p9 p10
         obtain ⟨p0, p1, p2, p3, p4, p5, p6, p7, p8, p9, p10⟩ := zfu hrA
         clear c2))
   go_wp2
   go_ret
   exact ⟨zbx HV.out.symm, HB.out.trans ((zfv hbA).mono HB.out.size)⟩
 have HV : Hid (zhx ⟨k, n, v, [x0, x1, x2, x3, x4, x5, x6, x7]⟩ = false) := by
  show _ = _
  unfold zhx
  rw [if_neg (by assumption), if_neg (by assumption), if_neg (by assumption)]
 have t1 : (k == 1) = false := by rw [beq_eq_false_iff_ne]; assumption
 have t2 : (k == 2) = false := by rw [beq_eq_false_iff_ne]; assumption
 have t3 : (k == 3) = false := by rw [beq_eq_false_iff_ne]; assumption
 clear c1 eV hn hg hg8 hv4 hr
 go_enter Tryz.func43, Tryz.ntmps43
 go_wp2
 go_ret
 exact ⟨zbx HV.out.symm, (Below.refl _ _).alloc jH _⟩
end

section
open Go.RowKit Go.Shelf
set_option maxHeartbeats 16000000
def zf8 (F : FuncId) : Prop := ∀ (v : Int), 0 <= v -> v < 4294967296 -> ∀ w : World, Pow w -> Calls Tryz.prog F #[.int .u32 v] w fun e w' => e = .returned (.string (bs (zqp v.toNat))) /\ Below w.heap.size w w'
def zf9 (F : FuncId) : Prop := ∀ (h : Hv) (w : World), h.Wf -> h.name.length <= 1000000000 -> zw5 w -> Calls Tryz.prog F #[h.val] w fun e w' => e = .returned (.string (bs (zhz h))) /\ Below w.heap.size w w'
theorem zga {g : List Nat} (hg : G16 g) : (zn0 g).length <= 82 := zo2 g hg _ _ 8 jH
theorem zgb {h : Hv} (hv : zhx h = false) : zhz h = [] := by unfold zhz; rw [if_neg (by rw [hv]; simp)]
theorem zgc {h : Hv} (hv : zhx h = true) : zhz h = zhy h := by unfold zhz; rw [if_pos hv]
set_option maxRecDepth 20000 in
theorem zgd (hVal : zft 43) (hF4 : zf8 72) (hF6 : zk0 73) : zf9 51 := by
 intro h w hw hn hp6
 cases hval : zhx h with
 | false =>
   rw [zgb hval]
   obtain ⟨k, n, v, g⟩ := h
   obtain ⟨x0, x1, x2, x3, x4, x5, x6, x7, rfl⟩ := zf5 g hw.2.1
   have c1 := fun W => hVal ⟨k, n, v, [x0, x1, x2, x3, x4, x5, x6, x7]⟩ W hw hn
   rw [hval] at c1
   have eV : (Hv.mk k n v [x0, x1, x2, x3, x4, x5, x6, x7]).val = .agg #[.int .i64 k, .string (bs n), .int .u32 (v : Nat), .int .u16 (x0 : Nat), .int .u16 (x1 : Nat), .int .u16 (x2 : Nat), .int .u16 (x3 : Nat), .int .u16 (x4 : Nat), .int .u16 (x5 : Nat), .int .u16 (x6 : Nat), .int .u16 (x7 : Nat)] := rfl
   rw [eV] at c1 ⊢
   have hr : zgy (w.alloc (.cells #[.int .i64 k, .string (bs n), .int .u32 (v : Nat), .int .u16 (x0 : Nat), .int .u16 (x1 : Nat), .int .u16 (x2 : Nat), .int .u16 (x3 : Nat), .int .u16 (x4 : Nat), .int .u16 (x5 : Nat), .int .u16 (x6 : Nat), .int .u16 (x7 : Nat)] 26)) w.heap.size _ := zat w _ _
   generalize bs n = N at *
   clear eV hval hw hn hp6
   go_enter Tryz.func51, Tryz.ntmps51
   go_wp2_with (refine zg0 rfl _ rfl w.heap.size (by exact rfl) _ hr rfl ?_)
   refine (c1 _).mono ?_
   rintro e w1 ⟨rfl, hb1⟩
   replace hb1 := ((Below.refl _ w).alloc jH _).trans (hb1.mono (by simp))
   go_wp2
   go_ret
   exact ⟨rfl, hb1⟩
 | true =>
   rw [zgc hval]
   rcases zil hval with ⟨_, e⟩ | e | e
   ·obtain ⟨n, hn1⟩ : ∃ n, n = h.name := ⟨_, rfl⟩
    rw [<- hn1] at e
    subst e
    have c1 := fun W => hVal (hvD n) W hw hn
    rw [hval] at c1
    have eV : (hvD n).val = .agg #[.int .i64 1, .string (bs n), .int .u32 0, .int .u16 0, .int .u16 0, .int .u16 0, .int .u16 0, .int .u16 0, .int .u16 0, .int .u16 0, .int .u16 0] := rfl
    have eT : zhy (hvD n) = n := rfl
    rw [eT]
    rw [eV] at c1 ⊢
    have hr : zgy (w.alloc (.cells #[.int .i64 1, .string (bs n), .int .u32 0, .int .u16 0, .int .u16 0, .int .u16 0, .int .u16 0, .int .u16 0, .int .u16 0, .int .u16 0, .int .u16 0] 26)) w.heap.size _ := zat w _ _
    have c2 := fun W => zur (bs n) W (by rw [zb5]; exact hn)
    clear hn1
    generalize bs n = N at *
    clear eV hval hw hn hp6
    go_enter Tryz.func51, Tryz.ntmps51
    go_wp2_with (refine zg0 rfl _ rfl w.heap.size (by exact rfl) _ hr rfl ?_)
    refine (c1 _).mono ?_
    rintro e w1 ⟨rfl, hb1⟩
    have hr1 := Row.below hr hb1 hr.lt
    replace hb1 := ((Below.refl _ w).alloc jH _).trans (hb1.mono (by simp))
    have p0 := Row.cell hr1 (k := 0) (by simp)
    have p1 := Row.cell hr1 (k := 1) (by simp)
    simp only [List.getElem_toArray, List.getElem_cons_zero, List.getElem_cons_succ] at p0 p1
    go_wp2_with fail
    refine (c2 _).mono ?_
    rintro e w2 ⟨rfl, hb2⟩
    go_wp2
    go_ret
    exact ⟨rfl, hb1.trans (hb2.mono hb1.size)⟩
   ·obtain ⟨v, hv1⟩ : ∃ v, v = h.v4 := ⟨_, rfl⟩
    rw [<- hv1] at e
    subst e
    have c1 := fun W => hVal (hv4 v) W hw hn
    rw [hval] at c1
    have eV : (hv4 v).val = .agg #[.int .i64 2, .string ⟨#[]⟩, .int .u32 (v : Nat), .int .u16 0, .int .u16 0, .int .u16 0, .int .u16 0, .int .u16 0, .int .u16 0, .int .u16 0, .int .u16 0] := rfl
    have eT : zhy (hv4 v) = zqp v := rfl
    rw [eT]
    rw [eV] at c1 ⊢
    have hr : zgy (w.alloc (.cells #[.int .i64 2, .string ⟨#[]⟩, .int .u32 (v : Nat), .int .u16 0, .int .u16 0, .int .u16 0, .int .u16 0, .int .u16 0, .int .u16 0, .int .u16 0, .int .u16 0] 26)) w.heap.size _ := zat w _ _
    have hv9 : v < 4294967296 := hw.1
    have c2 := fun W hW => hF4 (v : Nat) (by omega) (by omega) W hW
    simp only [show ((v : Nat) : Int).toNat = v from rfl] at c2
    generalize bs (zqp v) = N at *
    have HP := jL hp6
    clear eV hval hw hn hp6 hv1
    go_enter Tryz.func51, Tryz.ntmps51
    go_wp2_with (refine zg0 rfl _ rfl w.heap.size (by exact rfl) _ hr rfl ?_)
    refine (c1 _).mono ?_
    rintro e w1 ⟨rfl, hb1⟩
    have hr1 := Row.below hr hb1 hr.lt
    replace hb1 := ((Below.refl _ w).alloc jH _).trans (hb1.mono (by simp))
    have p0 := Row.cell hr1 (k := 0) (by simp)
    have p2 := Row.cell hr1 (k := 2) (by simp)
    simp only [List.getElem_toArray, List.getElem_cons_zero, List.getElem_cons_succ] at p0 p2
    have c3 := c2 w1 (zw7 HP.out hb1).1
    go_wp2_with fail
    refine c3.mono ?_
    rintro e w2 ⟨rfl, hb2⟩
    go_wp2
    go_ret
    exact ⟨rfl, hb1.trans (hb2.mono hb1.size)⟩
   ·obtain ⟨g, hg1⟩ : ∃ g, g = h.v6 := ⟨_, rfl⟩
    rw [<- hg1] at e
    subst e
    have hg8 : g.length = 8 := hw.2.1
    have c2 := fun W hW => hF6 g hg8 hw.2.2 W hW
    obtain ⟨x0, x1, x2, x3, x4, x5, x6, x7, rfl⟩ := zf5 g hg8
    have c1 := fun W => hVal (hv6 [x0, x1, x2, x3, x4, x5, x6, x7]) W hw hn
    rw [hval] at c1
    have eV : (hv6 [x0, x1, x2, x3, x4, x5, x6, x7]).val = .agg #[.int .i64 3, .string ⟨#[]⟩, .int .u32 0, .int .u16 (x0 : Nat), .int .u16 (x1 : Nat), .int .u16 (x2 : Nat), .int .u16 (x3 : Nat), .int .u16 (x4 : Nat), .int .u16 (x5 : Nat), .int .u16 (x6 : Nat), .int .u16 (x7 : Nat)] := rfl
    have eT : zhy (hv6 [x0, x1, x2, x3, x4, x5, x6, x7]) = 91 :: (zn0 [x0, x1, x2, x3, x4, x5, x6, x7] ++ [93]) := rfl
    have e1 : av [x0, x1, x2, x3, x4, x5, x6, x7] = #[.int .u16 (x0 : Nat), .int .u16 (x1 : Nat), .int .u16 (x2 : Nat), .int .u16 (x3 : Nat), .int .u16 (x4 : Nat), .int .u16 (x5 : Nat), .int .u16 (x6 : Nat), .int .u16 (x7 : Nat)] := rfl
    rw [eT]
    rw [eV] at c1 ⊢
    simp only [e1] at c2
    have hr : zgy (w.alloc (.cells #[.int .i64 3, .string ⟨#[]⟩, .int .u32 0, .int .u16 (x0 : Nat), .int .u16 (x1 : Nat), .int .u16 (x2 : Nat), .int .u16 (x3 : Nat), .int .u16 (x4 : Nat), .int .u16 (x5 : Nat), .int .u16 (x6 : Nat), .int .u16 (x7 : Nat)] 26)) w.heap.size _ := zat w _ _
    have HF : Hid (bs (91 :: (zn0 [x0, x1, x2, x3, x4, x5, x6, x7] ++ [93])) = (⟨#[91]⟩ : ByteArray) ++ bs (zn0 [x0, x1, x2, x3, x4, x5, x6, x7]) ++ ⟨#[93]⟩) := by
     show _ = _
     refine zb2 ?_
     rw [zb6, zb6, zb0, zb0]
     rfl
    have hN9 : (bs (zn0 [x0, x1, x2, x3, x4, x5, x6, x7])).size <= 82 := by rw [zb5]; exact zga hw.2.2
    rw [HF.out]
    generalize bs (zn0 [x0, x1, x2, x3, x4, x5, x6, x7]) = N at *
    have HP := jL hp6
    clear eV hval hw hn hp6 hg1 HF eT hg8 e1
    go_enter Tryz.func51, Tryz.ntmps51
    go_wp2_with (refine zg0 rfl _ rfl w.heap.size (by exact rfl) _ hr rfl ?_)
    refine (c1 _).mono ?_
    rintro e w1 ⟨rfl, hb1⟩
    have hr1 := Row.below hr hb1 hr.lt
    replace hb1 := ((Below.refl _ w).alloc jH _).trans (hb1.mono (by simp))
    obtain ⟨p0, p1, p2, p3, p4, p5, p6, p7, p8, p9, p10⟩ := zfu (k := 3) (N := ⟨#[]⟩) (v := 0) hr1
    have c3 := c2 w1 (zw7 HP.out hb1)
    go_wp2_with fail
    refine c3.mono ?_
    rintro e w2 ⟨rfl, hb2⟩
    go_wp2
    go_ret
    exact ⟨rfl, hb1.trans (hb2.mono hb1.size)⟩
end

section
open Go.RowKit Go.Shelf
set_option maxHeartbeats 16000000
theorem zgs {h : Hv} (hw : h.Wf) : (zhy h).length <= h.name.length + 84 := by
 unfold zhy
 split
 ·omega
 ·split
  ·have := zii hw.1
   omega
  ·have := zga hw.2.2
   simp
   omega
theorem zgt {h : Hv} (hw : h.Wf) : (zhz h).length <= h.name.length + 84 := by
 unfold zhz
 split
 ·exact zgs hw
 ·simp
theorem zgu (raw : List UInt8) : (zhw raw).2.name.length <= 253 := by
 rcases zix raw with ⟨_, ⟨_, hv⟩ | ⟨_, h0⟩⟩
 ·rcases zil hv with ⟨hn, _⟩ | e | e
  ·exact hn.len
  ·rw [e]; simp [hv4]
  ·rw [e]; simp [hv6]
 ·rw [h0]; simp [hv0]
end

end Go.Proofs.YtekaljeicfjkjaaGreatDoor
