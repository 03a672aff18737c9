/-
Contracts of strconv.AppendUint to the base 16, and of joined of package ipv6.
The longest run of groups 0, met by trying (plain); contract of longestZeros of package ipv6.
Contract of Format of package ipv6.
Contracts of package label's small functions: isLabelByte, isPlain, isNotBasic, isUpper, and of slices.ContainsFunc with the last two.
Contracts of slices.IndexFunc and slices.ContainsFunc with package label's two tests.
What is said of the text of a list of code points; no function.
-/
import Derived.Test.YtekaljeicfjkjaaGreatDoorK41
import Derived.Test.YtekaljeicfjkjaaGreatDoorK04
import Derived.Test.YtekaljeicfjkjaaGreatDoorK10
import Derived.Test.YtekaljeicfjkjaaGreatDoorK40
import Derived.Laws.CopyRow
import Derived.Deep.RegionHeld3
import Derived.Test.YtekaljeicfjkjaaGreatDoorK31
import Derived.Test.YtekaljeicfjkjaaGreatDoorK14
import Derived.Test.YtekaljeicfjkjaaGreatDoorK09
import Derived.BigQuiet
import Derived.Deep.QuietTactic
import Derived.Test.YtekaljeicfjkjaaGreatDoorK02
import Derived.Test.YtekaljeicfjkjaaGreatDoorK07
import Derived.Deep.LoopGhost
namespace Go.Proofs.YtekaljeicfjkjaaGreatDoor
section
open Go.RowKit
set_option maxHeartbeats 16000000
theorem zlp (B n u : Nat) (hu : u < 65536) (sv : Value) (l : List UInt8) (w : World) (hp : zw5 w) (hown : w.ownsRow B 5 1 sv n (l.map bv)) (hB : B <= w.heap.size) (hn : n <= 1000000000) :
 Calls Tryz.prog 127 #[sv, .int .u64 u, .int .i64 16] w fun e w' => ∃ v', e = .returned v' /\ w'.ownsRow B 5 1 v' (n + (znv u).length) ((l ++ znv u).map bv) /\ Below B w w' := by
 have c1 := zlo B n u hu sv l w hp hown hB hn
 clear hown hp
 go_enter Tryz.func127, Tryz.ntmps127
 go_wp2_with fail
 refine c1.mono ?_
 rintro e w' ⟨v', rfl, h1, h2⟩
 go_wp2
 go_ret
 exact ⟨_, rfl, h1, h2⟩
theorem zlq (B n u : Nat) (hu : u < 65536) (sv : Value) (l : List UInt8) (w : World) (hp : zw5 w) (hown : w.ownsRow B 5 1 sv n (l.map bv)) (hB : B <= w.heap.size) (hn : n <= 1000000000) :
 Calls Tryz.prog 98 #[sv, .int .u64 u, .int .i64 16] w fun e w' => ∃ v', e = .returned v' /\ w'.ownsRow B 5 1 v' (n + (znv u).length) ((l ++ znv u).map bv) /\ Below B w w' := by
 have c1 := zlp B n u hu sv l w hp hown hB hn
 clear hown hp
 go_enter Tryz.func98, Tryz.ntmps98
 go_wp2_with fail
 refine c1.mono ?_
 rintro e w' ⟨v', rfl, h1, h2⟩
 go_wp2
 go_ret
 exact ⟨_, rfl, h1, h2⟩
def jn (g : List Nat) (k : Nat) : List UInt8 := z3k 58 ((g.take k).map znv)
theorem zlr (g : List Nat) (k : Nat) (h : k < g.length) : jn g (k + 1) = jn g k ++ ((if k = 0 then [] else [58]) ++ znv (g.getD k 0)) := by
 unfold jn
 rw [zos g k h, List.map_append, List.map_singleton, zor]
 congr 2
 by_cases hk : k = 0
 ·subst hk; simp
 ·rw [if_neg hk, if_neg]
  simp only [List.map_eq_nil_iff]
  intro e
  have := congrArg List.length e
  rw [List.length_take] at this
  simp only [List.length_nil] at this
  omega
theorem zls (g : List Nat) (hg : G16 g) (k : Nat) (hk : k <= 8) : (jn g k).length <= 40 := by
 have := zo1 (g.take k) (hg.take k)
 rw [List.length_take] at this
 unfold jn
 omega
theorem zlt (w : World) (B : Nat) : w.ownsRow B 5 1 (.slice none 0 0) 0 [] := ⟨rfl, .inl ⟨rfl, rfl⟩⟩
set_option maxRecDepth 20000 in
theorem zlu (A : Option Addr) (n cap : Nat) (g : List Nat) (hg : G16 g) (hn8 : n <= 8) (w : World) (hp : zw5 w) (hh : Has w w.heap.size A n (uv g)) :
 Calls Tryz.prog 100 #[.slice A n cap] w fun e w' => e = .returned (.string (bs (z3k 58 (g.map znv)))) /\ Below w.heap.size w w' := by
 obtain ⟨i5, hi5, hz0, hz1, hz2⟩ := info_parts z34
 have hlen : g.length = n := by have := hh.1; rwa [zkb] at this
 have HF : Hid (jn g n = z3k 58 (g.map znv)) := by show _ = _; unfold jn; rw [<- hlen, List.take_length]
 have HG := jL hg
 have HL := jL hlen
 clear hg hlen
 go_enter Tryz.func100, Tryz.ntmps100
 go_wp2
 go_loopw [3, 8] (fun t i wr => ∃ k : Nat, k <= n /\ i = .int .i64 k /\ wr.ownsRow w.heap.size 5 1 t (jn g k).length ((jn g k).map bv) /\ Below w.heap.size w wr) (fun _ i _ => n - (intOf i).toNat)
 case atStart => exact ⟨0, Nat.zero_le _, rfl, zlt w _, Below.refl _ _⟩
 case round =>
  obtain ⟨k, hk, rfl, hown, hb⟩ := hrel
  by_cases hlt : k < n
  ·obtain ⟨b, off, rfl, hc⟩ := zke (hh.below hb) k hlt
   have hx : g.getD k 0 < 65536 := by
    refine HG.out _ ?_
    rw [List.getD_eq_getElem?_getD, List.getElem?_eq_getElem (by rw [HL.out]; exact hlt), Option.getD_some]
    exact List.getElem_mem _
   have hs := zlr g k (by rw [HL.out]; exact hlt)
   have hjl := zls g HG.out k (by omega)
   generalize g.getD k 0 = x at *
   have hwr : IntKind.u64.wrap (x : Int) = (x : Int) := by rw [IntKind.wrap_u64]; omega
   by_cases h0 : k = 0
   ·have HN : Hid (jn g (k + 1) = jn g k ++ znv x) := by show _ = _; rw [hs, if_pos h0]; rfl
    have hd : decide ((0 : Int) < (k : Int)) = false := jF (by omega)
    have hdN : decide (0 < k) = false := jF (by omega)
    clear hs h0
    go_wp2_with fail
    refine (zlq w.heap.size _ x hx _ _ _ (zw7 hp hb) hown hb.size (by omega)).mono ?_
    rintro e w1 ⟨v1, rfl, hown1, hb1⟩
    replace hb1 := hb.trans hb1
    have hl : (jn g (k + 1)).length = (jn g k).length + (znv x).length := by rw [HN.out, List.length_append]
    rw [<- HN.out, <- hl] at hown1
    go_wp2
    go_roundw
    case rel => exact ⟨k + 1, by omega, by go_num, hown1, hb1⟩
    case measure => simp [intOf]; omega
   ·have HN : Hid (jn g (k + 1) = (jn g k ++ [58]) ++ znv x) := by show _ = _; rw [hs, if_neg h0, List.append_assoc]
    have hd : decide ((0 : Int) < (k : Int)) = true := jT (by omega)
    have hdN : decide (0 < k) = true := jT (by omega)
    clear hs h0
    go_wp2_with (at_builtin; refine zcq wr rfl _ _ 72 rfl w.heap.size 5 i5 (.int .u8 0) 1 z31 hi5 hz0 hz1 hz2 rfl _ (by exact rfl) _ _ _ (by exact rfl) hown (by exact rfl) (by unfold maxLen; omega) (by omega) hb jH ?_; intro v2 w2 hown2 hb2 hgr)
    rw [show (jn g k).map bv ++ [Value.int .u8 58] = (jn g k ++ [58]).map bv by rw [List.map_append]; rfl] at hown2
    go_wp2_with fail
    refine (zlq w.heap.size _ x hx _ _ _ (zw7 hp hb2) hown2 hb2.size (by omega)).mono ?_
    rintro e w1 ⟨v1, rfl, hown1, hb1⟩
    replace hb1 := hb2.trans hb1
    have hl : (jn g (k + 1)).length = (jn g k).length + 1 + (znv x).length := by rw [HN.out, List.length_append, List.length_append]; rfl
    rw [<- HN.out, <- hl] at hown1
    go_wp2
    go_roundw
    case rel => exact ⟨k + 1, by omega, by go_num, hown1, hb1⟩
    case measure => simp [intOf]; omega
  ·obtain rfl : k = n := by omega
   have hconv := z36 wr _ _ _ _ hown
   rw [HF.out] at hconv
   go_wp2
   go_ret
   exact ⟨rfl, hb⟩
end

section
open Go.RowKit
set_option maxHeartbeats 16000000
def clr (a : List Nat) (f n : Nat) : List Nat := a.take f ++ (znt n ++ a.drop (f + n))
theorem zlv (a : List Nat) (f n : Nat) (h : f + n <= a.length) : (clr a f n).length = a.length := by
 unfold clr znt
 simp
 omega
theorem zlw (a : List Nat) (f n : Nat) (h : f + n <= a.length) : clr a f n = a ↔ n <= znw (a.drop f) := by
 have hsp : a = a.take f ++ ((a.drop f).take n ++ (a.drop f).drop n) := by rw [List.take_append_drop, List.take_append_drop]
 have hlen : ((a.drop f).take n).length = n := by simp; omega
 have h1 : clr a f n = a ↔ (a.drop f).take n = znt n := by
  unfold clr
  rw [<- List.drop_drop]
  constructor
  ·intro e
   conv at e => rhs; rw [hsp]
   have := List.append_cancel_left e
   exact (List.append_inj this (by simp [znt]; omega)).1.symm
  ·intro e
   conv => rhs; rw [hsp, e]
 rw [h1]
 generalize a.drop f = b at hlen ⊢
 clear h1 hsp
 constructor
 ·intro e
  have : ∀ (b : List Nat) (n : Nat), b.take n = znt n -> n <= znw b := by
   intro b
   induction b with
   | nil => intro n e; cases n with
     | zero => exact Nat.zero_le _
     | succ n => simp [znt, List.replicate_succ] at e
   | cons x r ih =>
     intro n e
     cases n with
     | zero => exact Nat.zero_le _
     | succ n =>
       simp only [znt, List.replicate_succ, List.take_succ_cons, List.cons.injEq] at e
       have h2 := ih n e.2
       unfold znw at h2 ⊢
       rw [List.takeWhile_cons, if_pos (by simp [e.1])]
       simp only [List.length_cons]
       omega
  exact this b n e
 ·intro hle
  have h2 := zn3 b
  have h3 : b.take n = (b.take (znw b)).take n := by rw [List.take_take, Nat.min_eq_left hle]
  rw [h3, h2]
  unfold znt
  rw [List.take_replicate, Nat.min_eq_left hle]
theorem zlx (a : List Nat) (h : ∀ f, znw (a.drop f) <= 1) : ∀ k, zny a k = (-1, 1)
 | 0 => rfl
 | k + 1 => by
   rw [zn1, zlx a h k]
   unfold znx
   have := h k
   rw [if_neg (by omega)]
theorem zly (a : List Nat) (i L : Nat) (h2 : 2 <= L) (hi : znw (a.drop i) = L) (hb : ∀ f, f < i -> znw (a.drop f) < L) (ha : ∀ f, znw (a.drop f) <= L) :
 ∀ k, (k <= i -> (zny a k).2 < L) /\ (i < k -> zny a k = ((i : Int), L))
 | 0 => ⟨fun _ => by show 1 < L; omega, fun h => by omega⟩
 | k + 1 => by
   have ih := zly a i L h2 hi hb ha k
   rw [zn1]
   unfold znx
   refine ⟨fun hk => ?_, fun hk => ?_⟩
   ·split
    ·exact hb k (by omega)
    ·exact ih.1 (by omega)
   ·by_cases hki : k = i
    ·subst hki
     rw [hi, if_pos (ih.1 jH)]
    ·rw [ih.2 (by omega), if_neg (by have := ha k; simp only; omega)]
def zlz (a : List Nat) (L : Nat) : Prop := ∀ n f, L < n -> f + n <= 8 -> clr a f n ≠ a
theorem zl0 (a : List Nat) : zlz a 8 := fun n f h h2 => by omega
theorem zl1 {a : List Nat} {L : Nat} (h : zlz a L) (hn : ∀ f, f + L <= 8 -> clr a f L ≠ a) (h0 : 0 < L) : zlz a (L - 1) := by
 intro n f h1 h2
 by_cases e : n = L
 ·subst e; exact hn f h2
 ·exact h n f (by omega) h2
theorem zl2 {a : List Nat} (ha : a.length = 8) {L : Nat} (h : zlz a L) (f : Nat) : znw (a.drop f) <= L := by
 by_cases hc : L < znw (a.drop f)
 ·have h1 := zn2 (a.drop f)
  rw [List.length_drop] at h1
  exact absurd ((zlw a f _ (by omega)).2 jH) (h _ f hc (by omega))
 ·omega
theorem zl3 {a : List Nat} (ha : a.length = 8) (h : zlz a 1) : zny a 8 = (-1, 1) := zlx a (zl2 ha h) 8
theorem zl4 {a : List Nat} (ha : a.length = 8) {L i : Nat} (h2 : 2 <= L) (h : zlz a L) (hb : ∀ f, f < i -> clr a f L ≠ a) (hi : i + L <= 8) (hc : clr a i L = a) : zny a 8 = ((i : Int), L) := by
 have h3 := (zlw a i L (by omega)).1 hc
 refine (zly a i L h2 (by have := zl2 ha h i; omega) (fun f hf => ?_) (zl2 ha h) 8).2 (by omega)
 by_cases hq : L <= znw (a.drop f)
 ·exact absurd ((zlw a f L (by omega)).2 hq) (hb f hf)
 ·omega
theorem zl5 (n : Nat) : (Builtin.zeroCells (Value.int .u16 0).cells n).toList = uv (znt n) := by
 have h : (Value.int .u16 0).cells = #[.int .u16 0] := rfl
 rw [h]
 apply List.ext_getElem
 ·simp [Builtin.zeroCells, uv, znt]
 ·intro i h1 h2
  simp [Builtin.zeroCells, uv, znt, Nat.mod_one]
theorem zl6 (w : World) {ops : Array Oper} {rest : List Oper} {o : Oper} {a : Act} {Q : Exit -> Act -> World -> Prop} (hg : o.guard = none) (hd : o.dst = none) (x : Operand)
 (hop : o.op = .call { callee := .builtin .clear, args := #[x], argTypes := #[95] }) (g f n cap : Nat) (hx : a.eval x = .slice (some ⟨g, f, none⟩) n cap) (C : List Nat) (hrow : zaj w g C) (hC : C.length = 8) (h8 : f + n <= 8) (h0 : 0 < n)
 (h : ∀ w', zaj w' g (clr C f n) -> w.grownBy w' (some g) -> wpList Tryz.prog ops Q rest a w') : wpList Tryz.prog ops Q (o :: rest) a w := by
 refine wpList_plain hg fun K hK => ?_
 obtain ⟨m, rfl⟩ : ∃ m, n = m + 1 := ⟨n - 1, by omega⟩
 have hsz : (av C).size = 8 := by rw [zaa, hC]
 have hst := run_storeCells_at Tryz.prog g f 24 (uv (znt (m + 1))) 0 (av C) w hrow (by rw [zkb, hsz]; simp [znt]; omega) (zkd _)
 have hval : ((av C).toList.take (f + 0) ++ uv (znt (m + 1)) ++ (av C).toList.drop (f + 0 + (uv (znt (m + 1))).length)).toArray = av (clr C f (m + 1)) := by
  have hl : (uv (znt (m + 1))).length = m + 1 := by rw [zkb]; simp [znt]
  rw [hl]
  simp [av, uv, clr, List.map_take, List.map_drop]
 rw [hval] at hst
 have hrun : (Builtin.clear_ #[95] o.type #[.slice (some ⟨g, f, none⟩) (m + 1) cap]).run Tryz.prog w = .ok (.tuple #[]) (w.setRow g (av (clr C f (m + 1)))) := by
  simp [Builtin.clear_, run_underlying zj7, zl5, hst, Result.andThen]
 have : wpList Tryz.prog ops Q rest (a.put o.dst (.tuple #[])) (w.setRow g (av (clr C f (m + 1)))) := by
  rw [hd]
  exact h _ (setRow_heap w g (av C) _ _ _ hrow) (zaw w g _)
 unfold Oper.wp
 simp [execOp, hop, resolve, invoke, builtin, hx, hrun, Result.andThen]
 exact hK _ _ this
def lzS (a : List Nat) : Nat := if (zny a 8).1 < 0 then 0 else (zny a 8).1.toNat
def lzE (a : List Nat) : Nat := if (zny a 8).1 < 0 then 0 else (zny a 8).1.toNat + (zny a 8).2
set_option maxRecDepth 20000 in
theorem zl7 (a : List Nat) (ha : a.length = 8) (w : World) :
 Calls Tryz.prog 99 #[.agg (av a)] w fun e w' => e = .returned (.tuple #[.int .i64 (lzS a : Nat), .int .i64 (lzE a : Nat)]) /\ Below w.heap.size w w' := by
 have HAL := jL ha
 go_enter Tryz.func99, Tryz.ntmps99
 go_wp2_with (refine zax _ rfl 1 rfl _ _ rfl _ (av a) (by exact rfl) (by exact rfl) ?_; intro W1 ga hga hla hA hG)
 have hb1 : Below w.heap.size w W1 := zav (Below.refl w.heap.size w) hG jH
 clear hG
 go_loopw [4] (fun i wr => ∃ (L : Nat) (z : Int), i = .int .i64 z /\ Hid (z = (L : Int)) /\ 1 <= z /\ z <= 8 /\ Hid (zlz a L) /\ zaj wr ga a /\ Below w.heap.size w wr) (fun i _ => (intOf i).toNat)
 case atStart => exact ⟨8, 8, rfl, jL rfl, by omega, by omega, jL (zl0 a), hA, hb1⟩
 case round =>
  obtain ⟨L, z, rfl, HZ, hz1, hz8, HTR, hrow, hb⟩ := hrel
  by_cases h2 : 2 <= z
  ·have hd : decide (z >= 2) = true := jT h2
   have hL2 : 2 <= L := by have := HZ.out; omega
   have HL2 := jL hL2
   clear hL2
   go_wp2
   go_loopw [14] (fun i wq => ∃ k : Nat, i = .int .i64 k /\ (k : Int) <= 8 - z + 1 /\ Hid (∀ f, f < k -> clr a f L ≠ a) /\ zaj wq ga a /\ Below w.heap.size w wq) (fun i _ => 9 - (intOf i).toNat)
   case atStart => exact ⟨0, rfl, by omega, jL (fun f hf => by omega), hrow, hb⟩
   case round =>
    obtain ⟨k, rfl, hk, HN, hrow2, hb2⟩ := hrel
    by_cases hlt : (k : Int) < 8 - z + 1
    ·have hd2 : decide ((k : Int) < 8 - z + 1) = true := jT hlt
     have hkL : k + L <= 8 := by have := HZ.out; omega
     have hL0 : 0 < L := by have := HL2.out; omega
     have hsl := fun g W => z2s (P := Tryz.prog) 24 23 8 g k (k + L) zae zka (some (.int .i64 (k : Int))) (some (.int .i64 ((k : Int) + z))) (.inl rfl) (.inl (by rw [HZ.out, Int.natCast_add])) (by omega) hkL W
     simp only [if_neg (show ¬ 8 = k by have := HL2.out; omega), show k + L - k = L by omega] at hsl
     obtain ⟨E, hE⟩ : ∃ E, E = clr a k L := ⟨_, rfl⟩
     have hEl : E.length = 8 := by rw [hE, zlv a k L (by rw [HAL.out]; exact hkL), HAL.out]
     have heq := zk3 E a hEl HAL.out
     have HE := jL hE
     have HK8 := jL hkL
     have HL0 := jL hL0
     clear hE hkL hL0
     by_cases hc : E = a
     ·have hdc : decide (E = a) = true := jT hc
      rw [hdc] at heq
      have HS : Hid (lzS a = k /\ lzE a = k + L) := by
       have := zl4 HAL.out HL2.out HTR.out HN.out HK8.out (HE.out ▸ hc)
       show _ /\ _
       unfold lzS lzE
       rw [this, if_neg (by simp only; omega), if_neg (by simp only; omega)]
       exact ⟨by simp, by simp⟩
      clear hdc hc
      go_wp2_with (first
       | (refine zaz _ rfl _ _ rfl ga (by exact rfl) _ (av a) hrow2 8 _ zae (zah a HAL.out) ?_)
       | (refine zay _ rfl 6 rfl _ rfl _ zai ?_; intro W4 gc hgc hlc hC hGc; have hrow4 := hrow2.grown0 hGc; have hb4 := zav hb2 hGc jH; have hne : ga ≠ gc := (by have := hrow2.lt; omega); have hgw : w.heap.size <= gc := (by have := hb2.size; omega))
       | (refine za0 _ rfl rfl _ _ _ rfl gc (by exact rfl) (av a) (by exact rfl) _ _ hC (zah a HAL.out) (by rw [zaa, zaa, HAL.out]; rfl) (zac a) ?_; intro W5 hC5 hG5; have hrow5 := hrow4.grown hG5 hne; have hb5 := zau hb4 hG5 jH hgw)
       | (refine zl6 _ rfl rfl _ rfl gc k L (8 - k) (by exact rfl) a hC5 HAL.out HK8.out HL0.out ?_; intro W6 hC6 hG6; have hrow6 := hrow5.grown hG6 hne; have hb6 := zau hb5 hG6 jH hgw; rw [<- HE.out] at hC6)
       | (refine zaz _ rfl _ _ rfl gc (by exact rfl) _ (av E) hC6 8 _ zae (zah E hEl) ?_)
       | (refine zaz _ rfl _ _ rfl ga (by exact rfl) _ (av a) hrow6 8 _ zae (zah a HAL.out) ?_))
      go_ret2
      refine ⟨?_, hb6⟩
      rw [HS.out.1, HS.out.2]
      rw [show ((k + L : Nat) : Int) = (k : Int) + z by rw [HZ.out, Int.natCast_add]]
      rfl
     ·have hdc : decide (E = a) = false := jF hc
      rw [hdc] at heq
      have HN2 : Hid (∀ f, f < k + 1 -> clr a f L ≠ a) := by
       show ∀ f, _
       intro f hf
       by_cases e : f = k
       ·subst e; rw [<- HE.out]; exact hc
       ·exact HN.out f (by omega)
      clear hdc hc
      go_wp2_with (first
       | (refine zaz _ rfl _ _ rfl ga (by exact rfl) _ (av a) hrow2 8 _ zae (zah a HAL.out) ?_)
       | (refine zay _ rfl 6 rfl _ rfl _ zai ?_; intro W4 gc hgc hlc hC hGc; have hrow4 := hrow2.grown0 hGc; have hb4 := zav hb2 hGc jH; have hne : ga ≠ gc := (by have := hrow2.lt; omega); have hgw : w.heap.size <= gc := (by have := hb2.size; omega))
       | (refine za0 _ rfl rfl _ _ _ rfl gc (by exact rfl) (av a) (by exact rfl) _ _ hC (zah a HAL.out) (by rw [zaa, zaa, HAL.out]; rfl) (zac a) ?_; intro W5 hC5 hG5; have hrow5 := hrow4.grown hG5 hne; have hb5 := zau hb4 hG5 jH hgw)
       | (refine zl6 _ rfl rfl _ rfl gc k L (8 - k) (by exact rfl) a hC5 HAL.out HK8.out HL0.out ?_; intro W6 hC6 hG6; have hrow6 := hrow5.grown hG6 hne; have hb6 := zau hb5 hG6 jH hgw; rw [<- HE.out] at hC6)
       | (refine zaz _ rfl _ _ rfl gc (by exact rfl) _ (av E) hC6 8 _ zae (zah E hEl) ?_)
       | (refine zaz _ rfl _ _ rfl ga (by exact rfl) _ (av a) hrow6 8 _ zae (zah a HAL.out) ?_))
      go_roundw
      case rel => exact ⟨k + 1, by go_num, by omega, HN2, hrow6, hb6⟩
      case measure => simp [intOf]; omega
    ·have hd2 : decide ((k : Int) < 8 - z + 1) = false := jF hlt
     have HTR2 : Hid (zlz a (L - 1)) := by
      refine jL (zl1 HTR.out (fun f hf => HN.out f ?_) (by have := HL2.out; omega))
      have := HZ.out
      omega
     go_wp2
     go_roundw
     case rel => exact ⟨L - 1, z - 1, by first | rfl | go_num, jL (by have := HZ.out; have := HL2.out; omega), by omega, by omega, HTR2, hrow2, hb2⟩
     case measure => simp [intOf]; omega
  ·have hd : decide (z >= 2) = false := jF h2
   have HS : Hid (lzS a = 0 /\ lzE a = 0) := by
    have hL : L = 1 := by have := HZ.out; omega
    have := zl3 HAL.out (hL ▸ HTR.out)
    show _ /\ _
    unfold lzS lzE
    rw [this, if_pos (by decide), if_pos (by decide)]
    exact ⟨rfl, rfl⟩
   go_wp2
   go_ret2
   refine ⟨?_, hb⟩
   rw [HS.out.1, HS.out.2]
   rfl
end

section
open Go.RowKit
set_option maxHeartbeats 16000000
theorem zl8 (l m : List UInt8) : bs l ++ bs m = bs (l ++ m) := zb2 (by rw [zb6, zb0, zb0, zb0])
theorem zl9 {w : World} {g : Nat} {C : List Nat} (h : zaj w g C) (hC : C.length = 8) (l m : Nat) (hm : l + m <= 8) {B : Nat} (hB : g < B) (A : Option Addr) (hA : 0 < m -> A = some ⟨g, l, none⟩) : Has w B A m (uv ((C.drop l).take m)) := by
 refine ⟨by rw [zkb, List.length_take, List.length_drop, hC]; omega, fun h0 => ⟨g, l, hA h0, hB, fun j hj => ?_⟩⟩
 have hj' : j < m := by
  rw [zkb, List.length_take] at hj
  omega
 rw [h.cell (k := l + j) (by omega)]
 simp [uv, List.getD_eq_getElem?_getD, List.getElem?_eq_getElem (show l + j < C.length by omega)]
theorem zma (a : List Nat) (ha : a.length = 8) : (lzS a = lzE a /\ lzS a = 0 /\ zn0 a = z3k 58 (a.map znv)) \/ (lzS a < lzE a /\ lzE a <= 8 /\ zn0 a = z3k 58 ((a.take (lzS a)).map znv) ++ ([58, 58] ++ z3k 58 ((a.drop (lzE a)).map znv))) := by
 rcases zn4 a 8 with e | ⟨i, m, hi, e, h2, hm⟩
 ·left
  unfold lzS lzE zn0 znz
  rw [e]
  refine ⟨rfl, rfl, ?_⟩
  rw [if_pos (.inl (by decide)), List.take_of_length_le (by omega)]
 ·right
  have hz := zn2 (a.drop i)
  rw [List.length_drop] at hz
  unfold lzS lzE zn0 znz
  rw [e]
  simp only
  rw [if_neg (by omega), if_neg (by omega), if_neg (by omega), List.take_of_length_le (show a.length <= 8 by omega)]
  exact ⟨by omega, by omega, rfl⟩
set_option maxRecDepth 20000 in
theorem zmb : zk0 73 := by
 intro a ha hg w hp
 have HAL := jL ha
 have HGG := jL hg
 have c0 := fun W => zl7 a ha W
 have hfa := zma a ha
 generalize hS : lzS a = S at *
 generalize hE : lzE a = E at *
 generalize zn0 a = F at *
 clear hS hE
 rcases hfa with ⟨h1, h2, hF⟩ | ⟨h1, h2, hF⟩
 ·subst h1
  subst h2
  have HF := jL hF
  clear hF
  go_enter Tryz.func73, Tryz.ntmps73
  go_wp2_with (first
   | (refine zax _ rfl 1 rfl _ _ rfl _ (av a) (by exact rfl) (by exact rfl) ?_; intro W1 ga hga hla hA hG; have hb1 := zav (Below.refl w.heap.size w) hG jH)
   | (refine zaz _ rfl _ _ rfl ga (by exact rfl) _ (av a) hA 8 _ zae (zah a HAL.out) ?_))
  refine (c0 _).mono ?_
  rintro e w2 ⟨rfl, hb2⟩
  have hA2 : zaj w2 ga a := Row.below hA hb2 hla
  replace hb2 := hb1.trans (hb2.mono hb1.size)
  have hsl := fun W => z2s (P := Tryz.prog) 24 23 8 ga 0 8 zae zka none none (.inr ⟨rfl, rfl⟩) (.inr ⟨rfl, rfl⟩) (by omega) (by omega) W
  simp only [if_neg (show ¬ 8 = 0 by omega), Nat.sub_zero] at hsl
  have hh := zl9 hA2 HAL.out 0 8 (by omega) hA2.lt (some ⟨ga, 0, none⟩) (fun _ => rfl)
  rw [List.drop_zero, List.take_of_length_le (by rw [HAL.out]; exact jH)] at hh
  have hp2 := zw7 hp hb2
  clear hG hA hA2
  go_wp2_with fail
  refine (zlu _ 8 8 a HGG.out (by omega) w2 hp2 hh).mono ?_
  rintro e w3 ⟨rfl, hb3⟩
  replace hb3 := hb2.trans (hb3.mono hb2.size)
  go_wp2
  go_ret
  exact ⟨by rw [HF.out]; rfl, hb3⟩
 ·obtain ⟨J1, hJ1⟩ : ∃ J, J = bs (z3k 58 ((a.take S).map znv)) := ⟨_, rfl⟩
  obtain ⟨J2, hJ2⟩ : ∃ J, J = bs (z3k 58 ((a.drop E).map znv)) := ⟨_, rfl⟩
  have hz1 : J1.size <= 40 := by
   rw [hJ1, zb5]
   have := zo1 (a.take S) (hg.take S)
   rw [List.length_take] at this
   omega
  have hz2 : J2.size <= 40 := by
   rw [hJ2, zb5]
   have := zo1 (a.drop E) (hg.drop E)
   rw [List.length_drop] at this
   omega
  have HF : Hid (bs F = (J1 ++ (⟨#[58, 58]⟩ : ByteArray)) ++ J2) := by
   show _ = _
   rw [hF, hJ1, hJ2, show (⟨#[58, 58]⟩ : ByteArray) = bs [58, 58] from rfl, zl8, zl8, List.append_assoc]
  have k1 : ¬ 9223372036854775807 < J1.size + 2 := by omega
  have k2 : ¬ 9223372036854775807 < J1.size + (⟨#[58, 58]⟩ : ByteArray).size := by rw [show (⟨#[58, 58]⟩ : ByteArray).size = 2 from rfl]; omega
  have k3 : ¬ 9223372036854775807 < J1.size + 2 + J2.size := by omega
  have k4 : ¬ 9223372036854775807 < (J1 ++ (⟨#[58, 58]⟩ : ByteArray)).size + J2.size := by
   rw [ByteArray.size_append, show (⟨#[58, 58]⟩ : ByteArray).size = 2 from rfl]; omega
  have hne : ((S : Int) == (E : Int)) = false := by rw [beq_eq_false_iff_ne]; omega
  have hJa := fun (A : Option Addr) (W : World) (h1 : zw5 W) (h2 : Has W W.heap.size A S (uv (a.take S))) => zlu A S 8 (a.take S) (HGG.out.take S) (by omega) W h1 h2
  have hJb := fun (A : Option Addr) (W : World) (h1 : zw5 W) (h2 : Has W W.heap.size A (8 - E) (uv (a.drop E))) => zlu A (8 - E) (8 - E) (a.drop E) (HGG.out.drop E) (by omega) W h1 h2
  rw [<- hJ1] at hJa
  rw [<- hJ2] at hJb
  have HSE := jL h1
  have HE8 := jL h2
  clear hF hJ1 hJ2 hg hz1 hz2
  go_enter Tryz.func73, Tryz.ntmps73
  go_wp2_with (first
   | (refine zax _ rfl 1 rfl _ _ rfl _ (av a) (by exact rfl) (by exact rfl) ?_; intro W1 ga hga hla hA hG; have hb1 := zav (Below.refl w.heap.size w) hG jH)
   | (refine zaz _ rfl _ _ rfl ga (by exact rfl) _ (av a) hA 8 _ zae (zah a HAL.out) ?_))
  refine (c0 _).mono ?_
  rintro e w2 ⟨rfl, hb2⟩
  have hA2 : zaj w2 ga a := Row.below hA hb2 hla
  replace hb2 := hb1.trans (hb2.mono hb1.size)
  have hs1 := fun W => z2s (P := Tryz.prog) 24 23 8 ga 0 S zae zka none (some (.int .i64 (S : Int))) (.inr ⟨rfl, rfl⟩) (.inl rfl) (by omega) (by omega) W
  have hs2 := fun W => z2s (P := Tryz.prog) 24 23 8 ga E 8 zae zka (some (.int .i64 (E : Int))) none (.inl rfl) (.inr ⟨rfl, rfl⟩) (by omega) (by omega) W
  simp only [if_neg (show ¬ 8 = 0 by omega), Nat.sub_zero] at hs1
  obtain ⟨A2, hA2e, hA20⟩ : ∃ A : Option Addr, A = some (if 8 = E then (⟨ga, 0, none⟩ : Addr) else ⟨ga, E, none⟩) /\ (0 < 8 - E -> A = some ⟨ga, E, none⟩) := ⟨_, rfl, fun h => by rw [if_neg (by omega)]⟩
  rw [<- hA2e] at hs2
  have cL : ∀ W, Below w2.heap.size w2 W -> Calls Tryz.prog 100 #[.slice (some ⟨ga, 0, none⟩) S 8] W fun e w' => e = .returned (.string J1) /\ Below W.heap.size W w' := by
   intro W hbW
   have hAW : zaj W ga a := Row.below hA2 hbW hA2.lt
   have hh := zl9 hAW HAL.out 0 S (by have := HSE.out; have := HE8.out; omega) hAW.lt (some ⟨ga, 0, none⟩) (fun _ => rfl)
   rw [List.drop_zero] at hh
   exact hJa _ W (zw7 (zw7 hp hb2) hbW) hh
  have cR : ∀ W, Below w2.heap.size w2 W -> Calls Tryz.prog 100 #[.slice A2 (8 - E) (8 - E)] W fun e w' => e = .returned (.string J2) /\ Below W.heap.size W w' := by
   intro W hbW
   have hAW : zaj W ga a := Row.below hA2 hbW hA2.lt
   have hh := zl9 hAW HAL.out E (8 - E) (by have := HE8.out; omega) hAW.lt A2 hA20
   rw [List.take_of_length_le (by rw [List.length_drop, HAL.out]; exact jH)] at hh
   exact hJb _ W (zw7 (zw7 hp hb2) hbW) hh
  have HB2 := jL hb2
  have hbX : Below w2.heap.size w2 w2.drew := (Below.refl _ _).drew
  have hcell := hA2.cell (k := 0) (by rw [HAL.out]; decide)
  clear hG hA hA2 hb2 hA2e hA20 hJa hJb h1 h2 c0 hb1
  go_wp2_with fail
  have htrue : True := trivial
  go_region_held3 (fun _ => True) (first | exact trivial | go_keep)
   (first
     | (go_at_call 100; (first | (with_reducible refine (cL _ hbX).mono ?_) | (with_reducible refine (cR _ hbX).mono ?_)); rintro r wA ⟨rfl, hbA'⟩; have hbA := hbX.trans (hbA'.mono hbX.size); clear hbX; have hbX := hbA))
  all_goals (go_wp2_with fail)
  all_goals go_ret
  all_goals exact ⟨by rw [HF.out]; rfl, HB2.out.trans (hbX.mono HB2.out.size)⟩
end

section
open Go.RowKit
set_option maxHeartbeats 16000000
def okI (y : Int) : Bool := (decide (97 <= y) && decide (y <= 122)) || (decide (48 <= y) && decide (y <= 57)) || y == 45 || y == 95
theorem zub (n : Nat) : okI (n : Int) = okN n := by
 have e : okI (n : Int) = true ↔ okN n = true := by
  rw [ztk]
  unfold okI
  simp only [Bool.or_eq_true, Bool.and_eq_true, decide_eq_true_eq, beq_iff_eq]
  omega
 cases h : okN n with
 | true => exact e.2 h
 | false =>
   cases h2 : okI (n : Int) with
   | true => rw [e.1 h2] at h; cases h
   | false => rfl
theorem zuc (b : Int) (w : World) : Calls Tryz.prog 212 #[.int .u8 b] w fun e w' => e = .returned (.bool (okI b)) /\ w = w' := by
 go_enter Tryz.func212, Tryz.ntmps212
 go_wp2
 all_goals
  go_ret
  exact ⟨zbx (by first | (simp [okI, *]; done) | (exfalso; simp_all; done) | (simp [okI, *]; omega) | (rw [Bool.eq_iff_iff]; simp [okI, *]; done) | (rw [Bool.eq_iff_iff]; simp [okI, *]; omega)), rfl⟩
theorem zud (c : UInt8) (w : World) : Calls Tryz.prog 212 #[.int .u8 (c.toNat : Int)] w fun e w' => e = .returned (.bool (okN c.toNat)) /\ w = w' := by
 rw [<- zub]
 exact zuc _ w
def zue (l : List UInt8) : Bool := zs3 l && l.all (fun b => okN b.toNat)
theorem zuf (l : List UInt8) : zs4 l = (zue l && (decide (l.take 4 ≠ xnL) || zs2 (l.drop 4))) := rfl
theorem zug {s : ByteArray} (h : s.size = 0) : zue (ls s) = false := by
 have : ls s = [] := List.eq_nil_of_length_eq_zero (by rw [zb4]; exact h)
 rw [this]
 rfl
theorem zuh {s : ByteArray} (h : 63 < s.size) : zue (ls s) = false := by
 unfold zue zs3
 rw [zb4, jF (p := s.size <= 63) (by omega)]
 simp
theorem zui {s : ByteArray} {y0 y1 : Nat} (h : 0 < s.size) (h0 : y0 = (s[0]'h).toNat) (h1 : y1 = (s[s.size - 1]'(by omega)).toNat) :
 ((y0 = 45 \/ y1 = 45) -> zue (ls s) = false) /\ ((y0 ≠ 45 /\ y1 ≠ 45 /\ s.size <= 63) -> zue (ls s) = okK (ls s) s.size) := by
 have g0 : (ls s).head? = some (s[0]'h) := by rw [List.head?_eq_getElem?, zb7 s 0 h]
 have g1 : (ls s).getLast? = some (s[s.size - 1]'(by omega)) := by rw [List.getLast?_eq_getElem?, zb4, zb7 s _ (by omega)]
 have hne : ls s ≠ [] := by
  intro e
  have := zb4 s
  rw [e] at this
  simp at this
  omega
 have e : zs3 (ls s) = (decide (s.size <= 63) && decide (y0 ≠ 45) && decide (y1 ≠ 45)) := by
  unfold zs3
  rw [g0, g1, zb4, jT hne, Bool.true_and]
  congr 1
  ·congr 1
   rw [decide_eq_decide]
   rw [h0, ne_eq, ne_eq, Option.some.injEq, zti]
  ·rw [decide_eq_decide]
   rw [h1, ne_eq, ne_eq, Option.some.injEq, zti]
 refine ⟨?_, ?_⟩
 ·intro hh
  unfold zue
  rw [e]
  rcases hh with hh | hh
  ·simp [hh]
  ·simp [hh]
 ·rintro ⟨a, b, c⟩
  unfold zue okK
  rw [e, jT a, jT b, jT c, zcb]
  simp
theorem zuj {l : List UInt8} (n k : Nat) (h : k < l.length) (hn : k < n) (hb : okN (l[k]).toNat = false) : okK l n = false := by
 unfold okK
 rw [List.all_eq_false]
 refine ⟨l[k], ?_, by rw [hb]; simp⟩
 rw [List.mem_take_iff_getElem]
 exact ⟨k, by omega, rfl⟩
set_option maxRecDepth 20000 in
theorem zuk (s : ByteArray) (w : World) :
 Calls Tryz.prog 194 #[.string s] w fun e w' => e = .returned (.bool (zue (ls s))) /\ w = w' := by
 by_cases h0 : s.size = 0
 ·have hlab := jL (zug h0)
  have he : s.toList.isEmpty = true := by rw [zb3]; exact List.isEmpty_iff.2 (List.eq_nil_of_length_eq_zero (by rw [zb4]; exact h0))
  go_enter Tryz.func194, Tryz.ntmps194
  go_wp2
  go_ret
  exact ⟨zbx hlab.out.symm, rfl⟩
 ·have he : s.toList.isEmpty = false := by rw [zb3]; exact zte h0
  by_cases h1 : 63 < s.size
  ·have hlab := jL (zuh h1)
   have hd : decide ((63 : Int) < (s.size : Int)) = true := jT (by omega)
   go_enter Tryz.func194, Tryz.ntmps194
   go_wp2
   go_ret
   exact ⟨zbx hlab.out.symm, rfl⟩
  ·have hd : decide ((63 : Int) < (s.size : Int)) = false := jF (by omega)
   have hz0 : (0 : Int) < (s.size : Int) := by omega
   have hf0 : 0 < s.size := by omega
   obtain ⟨y0, hy0⟩ : ∃ y0 : Nat, y0 = (s[0]'hf0).toNat := ⟨_, rfl⟩
   obtain ⟨y1, hy1⟩ : ∃ y1 : Nat, y1 = (s[s.size - 1]'(by omega)).toNat := ⟨_, rfl⟩
   have hends := jL (zui hf0 hy0 hy1)
   have hsub : (s.size : Int) - 1 = ((s.size - 1 : Nat) : Int) := by omega
   by_cases h2 : y0 = 45
   ·have hlab := jL (hends.out.1 (.inl h2))
    have e0 : (((s[0]'hf0).toNat : Int) == 45) = true := by rw [<- hy0, h2]; rfl
    clear hy0 hy1
    go_enter Tryz.func194, Tryz.ntmps194
    go_wp2
    go_ret
    exact ⟨zbx hlab.out.symm, rfl⟩
   ·have e0 : (((s[0]'hf0).toNat : Int) == 45) = false := by rw [<- hy0]; simp; omega
    by_cases h3 : y1 = 45
    ·have hlab := jL (hends.out.1 (.inr h3))
     have e1 : (((s[s.size - 1]'(by omega)).toNat : Int) == 45) = true := by rw [<- hy1, h3]; rfl
     clear hy0 hy1
     go_enter Tryz.func194, Tryz.ntmps194
     go_wp2
     go_ret
     exact ⟨zbx hlab.out.symm, rfl⟩
    ·have hlab := jL (hends.out.2 ⟨h2, h3, by omega⟩)
     have e1 : (((s[s.size - 1]'(by omega)).toNat : Int) == 45) = false := by rw [<- hy1]; simp; omega
     clear hy0 hy1 hends
     rw [hlab.out]
     have HS : Hid (s.size <= 63) := by show _ <= _; omega
     obtain ⟨R, hR⟩ : ∃ R, R = okK (ls s) s.size := ⟨_, rfl⟩
     have HR := jL hR
     rw [<- hR]
     clear hR hlab
     go_enter Tryz.func194, Tryz.ntmps194
     go_wp2
     clear e0 e1 h2 h3 hsub he
     go_loop [26] (fun i => ∃ k : Nat, k <= s.size /\ i = .int .i64 k /\ Hid (okK (ls s) k = true)) (fun i => s.size - (intOf i).toNat)
     case atStart => exact ⟨0, Nat.zero_le _, rfl, rfl⟩
     case round =>
      obtain ⟨k, hk, rfl, HK⟩ := hrel
      have hs63 : s.size <= 63 := HS.out
      by_cases hlt : k < s.size
      ·have hkl : k < (ls s).length := by rw [zb4]; exact hlt
       have HG := jL (ztm (ls s) k hkl)
       have HB : Hid (okN (ls s)[k].toNat = false -> R = false) := fun hb => by rw [HR.out]; exact zuj s.size k hkl hlt hb
       rw [zb8 s k hlt hkl] at HG HB
       have hkd : decide ((k : Int) < (s.size : Int)) = true := jT (by omega)
       have cB := zud s[k]
       cases hq : okN s[k].toNat with
       | true =>
         have HK2 : Hid (okK (ls s) (k + 1) = true) := by show _ = _; rw [HG.out, HK.out, hq]; rfl
         rw [hq] at cB
         clear hq
         go_wp2_with (go_at_call 212; refine (cB _).mono ?_; rintro e w' ⟨rfl, rfl⟩)
         go_round
         case rel => exact ⟨k + 1, by omega, by go_num, HK2⟩
         case measure => simp [intOf]; omega
       | false =>
         have HE := jL (HB.out hq)
         rw [hq] at cB
         clear hq
         go_wp2_with (go_at_call 212; refine (cB _).mono ?_; rintro e w' ⟨rfl, rfl⟩)
         go_ret
         exact ⟨zbx HE.out.symm, rfl⟩
      ·obtain rfl : k = s.size := by omega
       have hkd : decide ((s.size : Int) < (s.size : Int)) = false := by simp
       have HR2 : Hid (R = true) := by show _ = _; rw [HR.out, HK.out]
       go_wp2
       go_ret
       exact ⟨zbx HR2.out.symm, rfl⟩
theorem zul (x : Nat) (w : World) : Calls Tryz.prog 215 #[.int .i64 (x : Int)] w fun e w' => e = .returned (.bool (decide (128 <= x))) /\ w = w' := by
 have e : decide ((128 : Int) <= (x : Int)) = decide (128 <= x) := by rw [decide_eq_decide]; omega
 go_enter Tryz.func215, Tryz.ntmps215
 go_wp2
 go_ret
 exact ⟨zbx (by first | exact e | simp), rfl⟩
theorem zum (x : Nat) (w : World) : Calls Tryz.prog 216 #[.int .i64 (x : Int)] w fun e w' => e = .returned (.bool (zs1 x)) /\ w = w' := by
 rcases zt9 x with ⟨n1, n2⟩ | ⟨n1, n2, n3⟩ | ⟨n1, n2, n3⟩ | ⟨n1, n3⟩
 ·have t : decide ((65 : Int) <= (x : Int)) = false := jF (by omega)
  have tN : decide (65 <= x) = false := jF (by omega)
  rw [n2]
  clear n1 n2
  go_enter Tryz.func216, Tryz.ntmps216
  go_wp2
  go_ret
  exact ⟨rfl, rfl⟩
 all_goals
  have t : decide ((65 : Int) <= (x : Int)) = true := jT (by omega)
  have tN : decide (65 <= x) = true := jT (by omega)
  rw [n3]
 ·have t2 : decide ((x : Int) <= 90) = true := jT (by omega)
  have t2N : decide (x <= 90) = true := jT (by omega)
  clear n1 n2 n3
  go_enter Tryz.func216, Tryz.ntmps216
  go_wp2
  go_ret
  exact ⟨rfl, rfl⟩
 ·have t2 : decide ((x : Int) <= 90) = false := jF (by omega)
  have t2N : decide (x <= 90) = false := jF (by omega)
  clear n1 n2 n3
  go_enter Tryz.func216, Tryz.ntmps216
  go_wp2
  go_ret
  exact ⟨rfl, rfl⟩
 ·have t2 : decide ((x : Int) <= 90) = false := jF (by omega)
  have t2N : decide (x <= 90) = false := jF (by omega)
  clear n1 n3
  go_enter Tryz.func216, Tryz.ntmps216
  go_wp2
  go_ret
  exact ⟨rfl, rfl⟩
end

section
open Go.RowKit
set_option maxHeartbeats 16000000
theorem ztq (P : List Nat) (q : Nat -> Bool) (k : Nat) (h : k < P.length) : (P.drop k).any q = (q P[k] || (P.drop (k + 1)).any q) := by
 rw [List.drop_eq_getElem_cons h, List.any_cons]
set_option maxRecDepth 20000 in
theorem ztr (P : List Nat) (hP : ∀ x ∈ P, x <= 1114111) (A : Option Addr) (cap B : Nat) (w : World) (hA : Has w B A P.length (P.map nvI)) (hB : B <= w.heap.size) (hl : P.length <= 1000000) :
 Calls Tryz.prog 226 #[.slice A P.length cap, .func (.func 215) #[] #[]] w fun e w' => ∃ r : Int, e = .returned (.int .i64 r) /\ decide (0 <= r) = P.any (fun x => decide (128 <= x)) /\ Below w.heap.size w w' := by
 have HA := jL hA
 have HP := jL hP
 have HL := jL hl
 clear hA hP hl
 go_enter Tryz.func226, Tryz.ntmps226
 go_wp2
 go_loopw [8] (fun i wr => ∃ k : Nat, k <= P.length /\ i = .int .i64 k /\ Hid (Below w.heap.size w wr /\ P.any (fun x => decide (128 <= x)) = (P.drop k).any (fun x => decide (128 <= x)))) (fun i _ => P.length - (RowKit.intOf i).toNat)
 case atStart => exact ⟨0, Nat.zero_le _, rfl, Below.refl _ _, by rw [List.drop_zero]⟩
 case round =>
  obtain ⟨k, hk, rfl, HR⟩ := hrel
  have hkb : (k : Int) <= 1000000 := by have := HL.out; omega
  by_cases hlt : k < P.length
  ·obtain ⟨b, off, rfl, hbw, hc⟩ := HA.out.2 (by omega)
   have h1 := hc k (by rw [List.length_map]; exact hlt)
   rw [List.getElem_map] at h1
   have d1 := (HR.out.1.cell (p := ⟨b, off + k, none⟩) (Nat.lt_of_lt_of_le hbw hB)).trans h1
   have hstep : Hid (P.any (fun x => decide (128 <= x)) = ((fun x => decide (128 <= x)) P[k] || (P.drop (k + 1)).any (fun x => decide (128 <= x)))) := by
    show _ = _
    rw [HR.out.2, ztq P (fun x => decide (128 <= x)) k hlt]
   have hx := HP.out _ (List.getElem_mem hlt)
   obtain ⟨x, hxx⟩ : ∃ x, x = P[k] := ⟨_, rfl⟩
   rw [<- hxx] at d1 hstep hx
   clear hc h1 hxx
   have cF := zul x
   cases hb : (fun x => decide (128 <= x)) x with
   | true =>
     have HB := jL hb
     rw [show decide (128 <= x) = (fun x => decide (128 <= x)) x from rfl, hb] at cF
     clear hb
     go_wp2_with (go_at_call 215; refine (cF wr).mono ?_; rintro e w1 ⟨rfl, rfl⟩)
     go_ret
     refine ⟨k, rfl, ?_, HR.out.1⟩
     rw [hstep.out, HB.out, Bool.true_or, decide_eq_true_iff]
     omega
   | false =>
     have HB := jL hb
     rw [show decide (128 <= x) = (fun x => decide (128 <= x)) x from rfl, hb] at cF
     clear hb
     go_wp2_with (go_at_call 215; refine (cF wr).mono ?_; rintro e w1 ⟨rfl, rfl⟩)
     go_roundw
     case rel => exact ⟨k + 1, by omega, by go_num, HR.out.1, by rw [hstep.out, HB.out, Bool.false_or]⟩
     case measure => simp [RowKit.intOf]; omega
  ·have hkm : k = P.length := by omega
   have hz : Hid (P.any (fun x => decide (128 <= x)) = false) := by
    show _ = _
    rw [HR.out.2, hkm, List.drop_length]
    rfl
   have HBl := jL HR.out.1
   clear hkm
   go_wp2
   go_ret
   exact ⟨-1, rfl, by rw [hz.out]; decide, HBl.out⟩
theorem zts (P : List Nat) (hP : ∀ x ∈ P, x <= 1114111) (A : Option Addr) (cap B : Nat) (w : World) (hA : Has w B A P.length (P.map nvI)) (hB : B <= w.heap.size) (hl : P.length <= 1000000) :
 Calls Tryz.prog 214 #[.slice A P.length cap, .func (.func 215) #[] #[]] w fun e w' => e = .returned (.bool (P.any (fun x => decide (128 <= x)))) /\ Below w.heap.size w w' := by
 have hc := ztr P hP A cap B w hA hB hl
 obtain ⟨R, hR⟩ : ∃ R, R = P.any (fun x => decide (128 <= x)) := ⟨_, rfl⟩
 rw [<- hR] at hc ⊢
 clear hP hA hl hR
 go_enter Tryz.func214, Tryz.ntmps214
 go_wp2_with (go_at_call 226; refine hc.mono ?_; rintro e w1 ⟨r, rfl, hr, hb1⟩; have HR := jL hr; clear hr)
 go_ret
 exact ⟨zbx (by rw [<- HR.out]), hb1⟩
set_option maxRecDepth 20000 in
theorem ztt (P : List Nat) (hP : ∀ x ∈ P, x <= 1114111) (A : Option Addr) (cap B : Nat) (w : World) (hA : Has w B A P.length (P.map nvI)) (hB : B <= w.heap.size) (hl : P.length <= 1000000) :
 Calls Tryz.prog 226 #[.slice A P.length cap, .func (.func 216) #[] #[]] w fun e w' => ∃ r : Int, e = .returned (.int .i64 r) /\ decide (0 <= r) = P.any zs1 /\ Below w.heap.size w w' := by
 have HA := jL hA
 have HP := jL hP
 have HL := jL hl
 clear hA hP hl
 go_enter Tryz.func226, Tryz.ntmps226
 go_wp2
 go_loopw [8] (fun i wr => ∃ k : Nat, k <= P.length /\ i = .int .i64 k /\ Hid (Below w.heap.size w wr /\ P.any zs1 = (P.drop k).any zs1)) (fun i _ => P.length - (RowKit.intOf i).toNat)
 case atStart => exact ⟨0, Nat.zero_le _, rfl, Below.refl _ _, by rw [List.drop_zero]⟩
 case round =>
  obtain ⟨k, hk, rfl, HR⟩ := hrel
  have hkb : (k : Int) <= 1000000 := by have := HL.out; omega
  by_cases hlt : k < P.length
  ·obtain ⟨b, off, rfl, hbw, hc⟩ := HA.out.2 (by omega)
   have h1 := hc k (by rw [List.length_map]; exact hlt)
   rw [List.getElem_map] at h1
   have d1 := (HR.out.1.cell (p := ⟨b, off + k, none⟩) (Nat.lt_of_lt_of_le hbw hB)).trans h1
   have hstep : Hid (P.any zs1 = (zs1 P[k] || (P.drop (k + 1)).any zs1)) := by
    show _ = _
    rw [HR.out.2, ztq P zs1 k hlt]
   have hx := HP.out _ (List.getElem_mem hlt)
   obtain ⟨x, hxx⟩ : ∃ x, x = P[k] := ⟨_, rfl⟩
   rw [<- hxx] at d1 hstep hx
   clear hc h1 hxx
   have cF := zum x
   cases hb : zs1 x with
   | true =>
     have HB := jL hb
     rw [show zs1 x = zs1 x from rfl, hb] at cF
     clear hb
     go_wp2_with (go_at_call 216; refine (cF wr).mono ?_; rintro e w1 ⟨rfl, rfl⟩)
     go_ret
     refine ⟨k, rfl, ?_, HR.out.1⟩
     rw [hstep.out, HB.out, Bool.true_or, decide_eq_true_iff]
     omega
   | false =>
     have HB := jL hb
     rw [show zs1 x = zs1 x from rfl, hb] at cF
     clear hb
     go_wp2_with (go_at_call 216; refine (cF wr).mono ?_; rintro e w1 ⟨rfl, rfl⟩)
     go_roundw
     case rel => exact ⟨k + 1, by omega, by go_num, HR.out.1, by rw [hstep.out, HB.out, Bool.false_or]⟩
     case measure => simp [RowKit.intOf]; omega
  ·have hkm : k = P.length := by omega
   have hz : Hid (P.any zs1 = false) := by
    show _ = _
    rw [HR.out.2, hkm, List.drop_length]
    rfl
   have HBl := jL HR.out.1
   clear hkm
   go_wp2
   go_ret
   exact ⟨-1, rfl, by rw [hz.out]; decide, HBl.out⟩
theorem ztu (P : List Nat) (hP : ∀ x ∈ P, x <= 1114111) (A : Option Addr) (cap B : Nat) (w : World) (hA : Has w B A P.length (P.map nvI)) (hB : B <= w.heap.size) (hl : P.length <= 1000000) :
 Calls Tryz.prog 214 #[.slice A P.length cap, .func (.func 216) #[] #[]] w fun e w' => e = .returned (.bool (P.any zs1)) /\ Below w.heap.size w w' := by
 have hc := ztt P hP A cap B w hA hB hl
 obtain ⟨R, hR⟩ : ∃ R, R = P.any zs1 := ⟨_, rfl⟩
 rw [<- hR] at hc ⊢
 clear hP hA hl hR
 go_enter Tryz.func214, Tryz.ntmps214
 go_wp2_with (go_at_call 226; refine hc.mono ?_; rintro e w1 ⟨r, rfl, hr, hb1⟩; have HR := jL hr; clear hr)
 go_ret
 exact ⟨zbx (by rw [<- HR.out]), hb1⟩
end

section
open Go.RowKit
set_option maxHeartbeats 16000000
theorem z3z (P : List Nat) (k : Nat) (hk : k < P.length) : yas (P.take (k + 1)) = yas (P.take k) ++ yar P[k] := by
 rw [List.take_succ_eq_append_getElem hk]
 unfold yas
 rw [List.flatMap_append]
 simp
theorem z30 : ∀ (P : List Nat), (yas P).length <= 4 * P.length
 | [] => jH
 | q :: P => by
   have e : (yas (q :: P)).length = (yar q).length + (yas P).length := by
    show (yar q ++ yas P).length = _
    rw [List.length_append]
   have := (ya7 q).2.2.2
   have := z30 P
   rw [e, List.length_cons]
   omega
end

end Go.Proofs.YtekaljeicfjkjaaGreatDoor
