/-
Contract of the helper Short of the statements (package hstsstorekeep).
The law of equal origins (written by tools/gen-OrS.py).
Contract of allDigits of package ipv4.
-/
import Derived.Test.YtekaljeicfjkjaaGreatDoorRows
import Derived.Test.YtekaljeicfjkjaaGreatDoorJ00
import Derived.BigQuiet
import Derived.Deep.QuietTactic
import Derived.WalkSmall
import Derived.Test.YtekaljeicfjkjaaGreatDoorJ37
import Derived.Test.YtekaljeicfjkjaaGreatDoorJ32
import Derived.Test.YtekaljeicfjkjaaGreatDoorJ21
namespace Go.Proofs.YtekaljeicfjkjaaGreatDoor
section
open Go.RowKit
set_option maxHeartbeats 16000000
def zrx (n : Int) (ss : List ByteArray) : Bool := ss.all fun s => decide ((s.size : Int) <= n)
theorem zry (n : Int) (ss : List ByteArray) (k : Nat) (h : k < ss.length) (hn : n < (ss[k].size : Int)) : zrx n ss = false := by
 unfold zrx
 rw [List.all_eq_false]
 exact ⟨ss[k], List.getElem_mem h, by simp; omega⟩
theorem zrz (n : Int) (ss : List ByteArray) (k : Nat) (h : k < ss.length) (ht : zrx n (ss.take k) = true) (hn : (ss[k].size : Int) <= n) : zrx n (ss.take (k + 1)) = true := by
 unfold zrx at ht ⊢
 rw [List.take_succ_eq_append_getElem h, List.all_append, ht]
 simp [hn]
theorem zr0 (n : Int) (A : Option Addr) (len cap : Nat) (ss : List ByteArray) (B : Nat) (w : World) (hA : Has w B A len (ss.map Value.string)) (hlen : len <= 1000000000) :
 Calls Tryz.prog 29 #[.int .i64 n, .slice A len cap] w fun e w' => e = .returned (.bool (zrx n ss)) /\ w = w' := by
 have hl : ss.length = len := by simpa using hA.1
 go_enter Tryz.func29, Tryz.ntmps29
 have HL := jL hl
 have HA := jL hA
 clear hl hA
 go_wp2
 go_loop [5] (fun i => ∃ k : Nat, k <= len /\ i = .int .i64 k /\ zrx n (ss.take k) = true) (fun i => len - (intOf i).toNat)
 case atStart => exact ⟨0, Nat.zero_le _, rfl, rfl⟩
 case round =>
  obtain ⟨k, hk, rfl, hsh⟩ := hrel
  have HS := jL hsh
  clear hsh
  by_cases hlt : k < len
  ·have hks : k < ss.length := by rw [HL.out]; exact hlt
   obtain ⟨b, off, rfl, hb, hc⟩ := HA.out.at_ hlt
   rw [List.getElem_map] at hc
   by_cases hn : n < (ss[k].size : Int)
   ·have HF := jL (zry n ss k hks hn)
    go_wp2
    go_ret
    exact ⟨zbx HF.out.symm, rfl⟩
   ·have HT := jL (zrz n ss k hks HS.out (by omega))
    go_wp2
    go_round
    case rel => exact ⟨k + 1, by omega, by go_num, HT.out⟩
    case measure => simp [intOf]; omega
  ·have HF : Hid (zrx n ss = true) := by
    have := HS.out
    rwa [List.take_of_length_le (by rw [HL.out]; omega)] at this
   go_wp2
   go_ret
   exact ⟨zbx HF.out.symm, rfl⟩
end

section
open Go.RowKit Go.Shelf
set_option maxHeartbeats 16000000
theorem zvo {h : Hv} (hv : zhn h = true) : h.name.length <= 253 := by
 rcases zib hv with ⟨h1, _⟩ | h1 | h1
 ·exact h1.len
 ·rw [h1]; exact Nat.zero_le _
 ·rw [h1]; exact Nat.zero_le _
theorem zvp {s : List UInt8} (h : z55 s = true) : s.length <= 5 := by
 rcases zvd h with rfl | rfl | rfl | rfl <;> decide
theorem zvq {o : Ov} (hw : o.host.Wf) (h : zu1 o = true) : OSm o := by
 unfold zu1 at h
 simp only [Bool.and_eq_true, decide_eq_true_iff] at h
 obtain ⟨⟨⟨h1, h2⟩, h3⟩, h4⟩ := h
 exact ⟨hw, Nat.le_trans (zvo h2) (by decide), Nat.le_trans (zvp h1) (by decide), by omega, by omega⟩
theorem zvr {o : Ov} (hw : o.host.Wf) (h : zu1 o = true) : (zu2 o).length <= 2048 := by
 have h0 := h
 unfold zu1 at h
 simp only [Bool.and_eq_true, decide_eq_true_iff] at h
 obtain ⟨⟨⟨h1, h2⟩, h3⟩, h4⟩ := h
 have k1 := zgi hw
 have k2 := zvo h2
 have k3 := zvp h1
 have k4 : (zu0 o.scheme o.port).length <= 6 := by
  unfold zu0
  split
  ·simp
  ·have := z02 5 o.port.toNat (by omega) (by omega)
   simp only [List.length_cons]
   omega
 unfold zu2
 rw [if_pos h0]
 simp only [List.length_append, List.length_cons]
 omega
theorem zvs {o : Ov} (hw : o.host.Wf) (h : zu1 o = true) : z6m (ls (bs (zu2 o))) = (0, zvc o) := by
 unfold z6m
 rw [zb0, if_neg (by have := zvr hw h; omega)]
 exact zvl hw h
theorem zvt {a b : Ov} (ha : a.host.Wf) (hb : b.host.Wf) (ga : zu1 a = true) (gb : zu1 b = true) : ((bs (zu2 a)).toList == (bs (zu2 b)).toList) = eqO a b := by
 rw [zb3, zb3, zb0, zb0]
 cases h : eqO a b with
 | true => rw [(zva a b).1 h]; simp
 | false =>
   rw [beq_eq_false_iff_ne]
   intro he
   rw [zvm ha hb ga gb he, zvb] at h
   cases h
set_option maxRecDepth 20000 in
theorem walkOrSame (hPar : zff 84) (hF : zfy 51) (hVal : zfp 43) (hCov : zd0 44) (s t : ByteArray) (w : World) (_hs : s.size <= maxLen) (_ht : t.size <= maxLen) (hw : Uw w) :
 Calls Tryz.prog 6 #[.string s, .string t] w (Yes w) := by
 clear _hs _ht
 have cw := fun W hW => zuy hPar hF hVal hCov W hW
 unfold Yes at cw
 have HW := jL hw
 have cs := zr0 1000 (some ⟨w.heap.size, 0, none⟩) 2 2 [s, t] (w.heap.size + 1) (w.alloc (.cells #[.string s, .string t] 9)) (Has.two w _ _ _) (by decide)
 have hb0 : Below w.heap.size w (w.alloc (.cells #[.string s, .string t] 9)) := (Below.refl _ _).alloc jH _
 cases hsh : zrx 1000 [s, t] with
 | false =>
   rw [hsh] at cs
   clear hsh hw
   go_enter Tryz.func6, Tryz.ntmps6
   go_wp2_with fail
   refine cs.mono ?_
   rintro e w0 ⟨rfl, hbs⟩
   have hbw : Below w.heap.size w w0 := by
    rw [<- hbs]
    exact hb0
   clear hbs cs
   go_wp2_with fail
   refine (cw _ (z5d HW.out hbw)).mono ?_
   rintro e wA ⟨rfl, hb5⟩
   replace hbw := hbw.trans (hb5.mono hbw.size)
   go_wp2
   go_ret
   exact ⟨rfl, hbw⟩
 | true =>
 rw [hsh] at cs
 clear hsh hw
 have p1 := fun W => z7d s W
 have p2 := fun W => z7d t W
 unfold z5e at p1 p2
 have su := z75 (ls s)
 have sv := z75 (ls t)
 have gu := z76 (l := ls s)
 have gv := z76 (l := ls t)
 obtain ⟨u, hu⟩ : ∃ u, u = (z6m (ls s)).2 := ⟨_, rfl⟩
 obtain ⟨v, hv⟩ : ∃ v, v = (z6m (ls t)).2 := ⟨_, rfl⟩
 obtain ⟨n, hn⟩ : ∃ n, n = (z6m (ls s)).1 := ⟨_, rfl⟩
 obtain ⟨m, hm⟩ : ∃ m, m = (z6m (ls t)).1 := ⟨_, rfl⟩
 rw [<- hu] at su gu p1
 rw [<- hv] at sv gv p2
 rw [<- hn] at gu p1
 rw [<- hm] at gv p2
 clear hu hv hn hm
 have hC := z87 u
 have hD := z87 v
 by_cases hn0 : n = 0
 ·have t1 : ((n : Int) == 0) = true := by rw [hn0]; rfl
  have t2 : ((n : Int) != 0) = false := by rw [bne, t1]; rfl
  by_cases hm0 : m = 0
  ·have s1 : ((m : Int) == 0) = true := by rw [hm0]; rfl
   have s2 : ((m : Int) != 0) = false := by rw [bne, s1]; rfl
   have hgu := gu hn0
   have hgv := gv hm0
   have c2 := fun W hW => zud hPar hF u su W hW
   have c3 := fun W hW => zud hPar hF v sv W hW
   unfold zuc at c2 c3
   have c4 := fun W => z7z (bs u.scheme) W
   rw [zb0] at c4
   have hA := zv6 (ofL u).2
   have hB := zv6 (ofL v).2
   generalize (n : Int) = nI at *
   generalize (m : Int) = mI at *
   clear gu gv hn0 hm0
   cases hsp : z55 u.scheme with
   | false =>
     rw [hsp] at c4
     have hk : (ofL u).1 = false := by rw [zt9 hsp]
     rw [hk] at c2
     generalize (ofL u).2.cells = A at *
     generalize (ofL v).2.cells = B at *
     generalize (ofL v).1 = is at *
     generalize u.cells = C at *
     generalize v.cells = D at *
     generalize bs u.scheme = S at *
     clear hsp hk su sv hgu hgv
     go_enter Tryz.func6, Tryz.ntmps6
     go_wp2_with fail
     refine cs.mono ?_
     rintro e w0 ⟨rfl, hbs⟩
     have hbw : Below w.heap.size w w0 := by
      rw [<- hbs]
      exact hb0
     clear hbs cs
     go_wp2_with fail
     refine (p1 _).mono ?_
     rintro e w1 ⟨rfl, hb5⟩
     replace hbw := hbw.trans (hb5.mono hbw.size)
     clear hb5
     go_wp2_with (first
      | (refine zay _ rfl 5 rfl _ rfl uz z43 ?_
         intro W5 g5 hg5 hl5 hn5 hG5
         have hle5 : w.heap.size <= g5 := by have := hbw.size; omega
         replace hbw := zav hbw hG5 jH)
      | (refine z84 rfl rfl _ _ rfl g5 (by exact rfl) C (by exact rfl) uz hn5 rfl hC.sz hC.one ?_
         intro V5 hs5 hS5
         replace hbw := zau hbw hS5 jH hle5))
     refine (p2 _).mono ?_
     rintro e w2 ⟨rfl, hb5⟩
     replace hs5 : z80 w2 g5 C := Row.below hs5 hb5 (Row.lt hs5)
     replace hbw := hbw.trans (hb5.mono hbw.size)
     clear hb5
     go_wp2_with (first
      | (refine zay _ rfl 7 rfl _ rfl uz z43 ?_
         intro W7 g7 hg7 hl7 hn7 hG7
         have hle7 : w.heap.size <= g7 := by have := hbw.size; omega
         have hne5_7 : g5 ≠ g7 := by have := Row.lt hs5; omega
         replace hs5 : z80 W7 g5 C := Row.grown0 hs5 hG7
         replace hbw := zav hbw hG7 jH)
      | (refine z84 rfl rfl _ _ rfl g7 (by exact rfl) D (by exact rfl) uz hn7 rfl hD.sz hD.one ?_
         intro V7 hs7 hS7
         replace hs5 : z80 V7 g5 C := Row.grown hs5 hS7 hne5_7
         replace hbw := zau hbw hS7 jH hle7)
      | (refine z82 (by rfl) _ rfl g5 (by exact rfl) C hs5 hC.sz ?_))
     refine (c2 _ (z5d HW.out hbw)).mono ?_
     rintro e w3 ⟨rfl, hb5⟩
     replace hs5 : z80 w3 g5 C := Row.below hs5 hb5 (Row.lt hs5)
     replace hs7 : z80 w3 g7 D := Row.below hs7 hb5 (Row.lt hs7)
     replace hbw := hbw.trans (hb5.mono hbw.size)
     clear hb5
     go_wp2_with (first
      | (refine zay _ rfl 9 rfl _ rfl oz zvx ?_
         intro W9 g9 hg9 hl9 hn9 hG9
         have hle9 : w.heap.size <= g9 := by have := hbw.size; omega
         have hne5_9 : g5 ≠ g9 := by have := Row.lt hs5; omega
         replace hs5 : z80 W9 g5 C := Row.grown0 hs5 hG9
         have hne7_9 : g7 ≠ g9 := by have := Row.lt hs7; omega
         replace hs7 : z80 W9 g7 D := Row.grown0 hs7 hG9
         replace hbw := zav hbw hG9 jH)
      | (refine zv4 rfl rfl _ _ rfl g9 (by exact rfl) A (by exact rfl) oz hn9 rfl hA.sz hA.one ?_
         intro V9 hs9 hS9
         replace hs5 : z80 V9 g5 C := Row.grown hs5 hS9 hne5_9
         replace hs7 : z80 V9 g7 D := Row.grown hs7 hS9 hne7_9
         replace hbw := zau hbw hS9 jH hle9)
      | (refine z82 (by rfl) _ rfl g7 (by exact rfl) D hs7 hD.sz ?_))
     refine (c3 _ (z5d HW.out hbw)).mono ?_
     rintro e w4 ⟨rfl, hb5⟩
     replace hs5 : z80 w4 g5 C := Row.below hs5 hb5 (Row.lt hs5)
     replace hs7 : z80 w4 g7 D := Row.below hs7 hb5 (Row.lt hs7)
     replace hs9 : zv0 w4 g9 A := Row.below hs9 hb5 (Row.lt hs9)
     replace hbw := hbw.trans (hb5.mono hbw.size)
     clear hb5
     go_wp2_with (first
      | (refine zay _ rfl 11 rfl _ rfl oz zvx ?_
         intro W11 g11 hg11 hl11 hn11 hG11
         have hle11 : w.heap.size <= g11 := by have := hbw.size; omega
         have hne5_11 : g5 ≠ g11 := by have := Row.lt hs5; omega
         replace hs5 : z80 W11 g5 C := Row.grown0 hs5 hG11
         have hne7_11 : g7 ≠ g11 := by have := Row.lt hs7; omega
         replace hs7 : z80 W11 g7 D := Row.grown0 hs7 hG11
         have hne9_11 : g9 ≠ g11 := by have := Row.lt hs9; omega
         replace hs9 : zv0 W11 g9 A := Row.grown0 hs9 hG11
         replace hbw := zav hbw hG11 jH)
      | (refine zv4 rfl rfl _ _ rfl g11 (by exact rfl) B (by exact rfl) oz hn11 rfl hB.sz hB.one ?_
         intro V11 hs11 hS11
         replace hs5 : z80 V11 g5 C := Row.grown hs5 hS11 hne5_11
         replace hs7 : z80 V11 g7 D := Row.grown hs7 hS11 hne7_11
         replace hs9 : zv0 V11 g9 A := Row.grown hs9 hS11 hne9_11
         replace hbw := zau hbw hS11 jH hle11
         obtain ⟨e0, e1, e3, e13, e14⟩ := hC.cell hs5))
     refine (c4 _).mono ?_
     rintro e w5 ⟨rfl, rfl⟩
     go_wp2_with fail
     refine (c4 _).mono ?_
     rintro e w6 ⟨rfl, rfl⟩
     go_wp2_with fail
     refine (cw _ (z5d HW.out hbw)).mono ?_
     rintro e wA ⟨rfl, hb5⟩
     replace hbw := hbw.trans (hb5.mono hbw.size)
     go_wp2
     go_ret
     exact ⟨rfl, hbw⟩
   | true =>
     rw [hsp] at c4
     have ea := zub hsp (z74 hgu)
     have hk : (ofL u).1 = true := by rw [ea]
     rw [hk] at c2
     cases hsq : z55 v.scheme with
     | false =>
       have hk2 : (ofL v).1 = false := by rw [zt9 hsq]
       rw [hk2] at c3
       generalize (ofL u).2.cells = A at *
       generalize (ofL v).2.cells = B at *
       generalize u.cells = C at *
       generalize v.cells = D at *
       generalize bs u.scheme = S at *
       clear hsp hsq hk hk2 su sv hgu hgv ea
       go_enter Tryz.func6, Tryz.ntmps6
       go_wp2_with fail
       refine cs.mono ?_
       rintro e w0 ⟨rfl, hbs⟩
       have hbw : Below w.heap.size w w0 := by
        rw [<- hbs]
        exact hb0
       clear hbs cs
       go_wp2_with fail
       refine (p1 _).mono ?_
       rintro e w1 ⟨rfl, hb5⟩
       replace hbw := hbw.trans (hb5.mono hbw.size)
       clear hb5
       go_wp2_with (first
        | (refine zay _ rfl 5 rfl _ rfl uz z43 ?_
           intro W5 g5 hg5 hl5 hn5 hG5
           have hle5 : w.heap.size <= g5 := by have := hbw.size; omega
           replace hbw := zav hbw hG5 jH)
        | (refine z84 rfl rfl _ _ rfl g5 (by exact rfl) C (by exact rfl) uz hn5 rfl hC.sz hC.one ?_
           intro V5 hs5 hS5
           replace hbw := zau hbw hS5 jH hle5))
       refine (p2 _).mono ?_
       rintro e w2 ⟨rfl, hb5⟩
       replace hs5 : z80 w2 g5 C := Row.below hs5 hb5 (Row.lt hs5)
       replace hbw := hbw.trans (hb5.mono hbw.size)
       clear hb5
       go_wp2_with (first
        | (refine zay _ rfl 7 rfl _ rfl uz z43 ?_
           intro W7 g7 hg7 hl7 hn7 hG7
           have hle7 : w.heap.size <= g7 := by have := hbw.size; omega
           have hne5_7 : g5 ≠ g7 := by have := Row.lt hs5; omega
           replace hs5 : z80 W7 g5 C := Row.grown0 hs5 hG7
           replace hbw := zav hbw hG7 jH)
        | (refine z84 rfl rfl _ _ rfl g7 (by exact rfl) D (by exact rfl) uz hn7 rfl hD.sz hD.one ?_
           intro V7 hs7 hS7
           replace hs5 : z80 V7 g5 C := Row.grown hs5 hS7 hne5_7
           replace hbw := zau hbw hS7 jH hle7)
        | (refine z82 (by rfl) _ rfl g5 (by exact rfl) C hs5 hC.sz ?_))
       refine (c2 _ (z5d HW.out hbw)).mono ?_
       rintro e w3 ⟨rfl, hb5⟩
       replace hs5 : z80 w3 g5 C := Row.below hs5 hb5 (Row.lt hs5)
       replace hs7 : z80 w3 g7 D := Row.below hs7 hb5 (Row.lt hs7)
       replace hbw := hbw.trans (hb5.mono hbw.size)
       clear hb5
       go_wp2_with (first
        | (refine zay _ rfl 9 rfl _ rfl oz zvx ?_
           intro W9 g9 hg9 hl9 hn9 hG9
           have hle9 : w.heap.size <= g9 := by have := hbw.size; omega
           have hne5_9 : g5 ≠ g9 := by have := Row.lt hs5; omega
           replace hs5 : z80 W9 g5 C := Row.grown0 hs5 hG9
           have hne7_9 : g7 ≠ g9 := by have := Row.lt hs7; omega
           replace hs7 : z80 W9 g7 D := Row.grown0 hs7 hG9
           replace hbw := zav hbw hG9 jH)
        | (refine zv4 rfl rfl _ _ rfl g9 (by exact rfl) A (by exact rfl) oz hn9 rfl hA.sz hA.one ?_
           intro V9 hs9 hS9
           replace hs5 : z80 V9 g5 C := Row.grown hs5 hS9 hne5_9
           replace hs7 : z80 V9 g7 D := Row.grown hs7 hS9 hne7_9
           replace hbw := zau hbw hS9 jH hle9)
        | (refine z82 (by rfl) _ rfl g7 (by exact rfl) D hs7 hD.sz ?_))
       refine (c3 _ (z5d HW.out hbw)).mono ?_
       rintro e w4 ⟨rfl, hb5⟩
       replace hs5 : z80 w4 g5 C := Row.below hs5 hb5 (Row.lt hs5)
       replace hs7 : z80 w4 g7 D := Row.below hs7 hb5 (Row.lt hs7)
       replace hs9 : zv0 w4 g9 A := Row.below hs9 hb5 (Row.lt hs9)
       replace hbw := hbw.trans (hb5.mono hbw.size)
       clear hb5
       go_wp2_with (first
        | (refine zay _ rfl 11 rfl _ rfl oz zvx ?_
           intro W11 g11 hg11 hl11 hn11 hG11
           have hle11 : w.heap.size <= g11 := by have := hbw.size; omega
           have hne5_11 : g5 ≠ g11 := by have := Row.lt hs5; omega
           replace hs5 : z80 W11 g5 C := Row.grown0 hs5 hG11
           have hne7_11 : g7 ≠ g11 := by have := Row.lt hs7; omega
           replace hs7 : z80 W11 g7 D := Row.grown0 hs7 hG11
           have hne9_11 : g9 ≠ g11 := by have := Row.lt hs9; omega
           replace hs9 : zv0 W11 g9 A := Row.grown0 hs9 hG11
           replace hbw := zav hbw hG11 jH)
        | (refine zv4 rfl rfl _ _ rfl g11 (by exact rfl) B (by exact rfl) oz hn11 rfl hB.sz hB.one ?_
           intro V11 hs11 hS11
           replace hs5 : z80 V11 g5 C := Row.grown hs5 hS11 hne5_11
           replace hs7 : z80 V11 g7 D := Row.grown hs7 hS11 hne7_11
           replace hs9 : zv0 V11 g9 A := Row.grown hs9 hS11 hne9_11
           replace hbw := zau hbw hS11 jH hle11
           obtain ⟨e0, e1, e3, e13, e14⟩ := hC.cell hs5))
       refine (c4 _).mono ?_
       rintro e w5 ⟨rfl, rfl⟩
       go_wp2_with fail
       refine (c4 _).mono ?_
       rintro e w6 ⟨rfl, rfl⟩
       go_wp2_with fail
       refine (cw _ (z5d HW.out hbw)).mono ?_
       rintro e wA ⟨rfl, hb5⟩
       replace hbw := hbw.trans (hb5.mono hbw.size)
       go_wp2
       go_ret
       exact ⟨rfl, hbw⟩
     | true =>
       have eb := zub hsq (z74 hgv)
       have hk2 : (ofL v).1 = true := by rw [eb]
       rw [hk2] at c3
       have ga := zvn hgu hsp
       have gb := zvn hgv hsq
       have ha : (ofL u).2 = ⟨u.scheme, u.host, zuz u⟩ := by rw [ea]
       have hb : (ofL v).2 = ⟨v.scheme, v.host, zuz v⟩ := by rw [eb]
       rw [<- ha] at ga
       rw [<- hb] at gb
       have wa : (ofL u).2.host.Wf := zui su.wf
       have wb : (ofL v).2.host.Wf := zui sv.wf
       clear ha hb ea eb hk hk2 hsp hsq
       obtain ⟨a, ha⟩ : ∃ a, a = (ofL u).2 := ⟨_, rfl⟩
       obtain ⟨b, hb⟩ : ∃ b, b = (ofL v).2 := ⟨_, rfl⟩
       rw [<- ha] at c2 hA ga wa
       rw [<- hb] at c3 hB gb wb
       clear ha hb
       have c5 := fun W hW => zul hPar hF a (zvq wa ga) W hW
       have c6 := fun W hW => zul hPar hF b (zvq wb gb) W hW
       have p3 := fun W => z7d (bs (zu2 a)) W
       unfold z5e at p3
       rw [zvs wa ga] at p3
       have c7 := fun W hW => zud hPar hF (zvc a) (zuh (zvq wa ga)) W hW
       unfold zuc at c7
       rw [zvi wa ga] at c7
       have hE := z87 (zvc a)
       have hAB := fun W => zwa a b wa wb W
       have hAA := fun W => zwa a a wa wa W
       rw [zvb] at hAA
       have hT := zvt wa wb ga gb
       simp only at p3 c7
       generalize eqO a b = q at *
       generalize bs (zu2 a) = TA at *
       generalize bs (zu2 b) = TB at *
       generalize (zvc a).cells = E at *
       generalize a.cells = A at *
       generalize b.cells = B at *
       generalize u.cells = C at *
       generalize v.cells = D at *
       generalize bs u.scheme = S at *
       have hqq : (q == q) = true := by simp
       clear su sv hgu hgv ga gb wa wb
       go_enter Tryz.func6, Tryz.ntmps6
       go_wp2_with fail
       refine cs.mono ?_
       rintro e w0 ⟨rfl, hbs⟩
       have hbw : Below w.heap.size w w0 := by
        rw [<- hbs]
        exact hb0
       clear hbs cs
       go_wp2_with fail
       refine (p1 _).mono ?_
       rintro e w1 ⟨rfl, hb5⟩
       replace hbw := hbw.trans (hb5.mono hbw.size)
       clear hb5
       go_wp2_with (first
        | (refine zay _ rfl 5 rfl _ rfl uz z43 ?_
           intro W5 g5 hg5 hl5 hn5 hG5
           have hle5 : w.heap.size <= g5 := by have := hbw.size; omega
           replace hbw := zav hbw hG5 jH)
        | (refine z84 rfl rfl _ _ rfl g5 (by exact rfl) C (by exact rfl) uz hn5 rfl hC.sz hC.one ?_
           intro V5 hs5 hS5
           replace hbw := zau hbw hS5 jH hle5))
       refine (p2 _).mono ?_
       rintro e w2 ⟨rfl, hb5⟩
       replace hs5 : z80 w2 g5 C := Row.below hs5 hb5 (Row.lt hs5)
       replace hbw := hbw.trans (hb5.mono hbw.size)
       clear hb5
       go_wp2_with (first
        | (refine zay _ rfl 7 rfl _ rfl uz z43 ?_
           intro W7 g7 hg7 hl7 hn7 hG7
           have hle7 : w.heap.size <= g7 := by have := hbw.size; omega
           have hne5_7 : g5 ≠ g7 := by have := Row.lt hs5; omega
           replace hs5 : z80 W7 g5 C := Row.grown0 hs5 hG7
           replace hbw := zav hbw hG7 jH)
        | (refine z84 rfl rfl _ _ rfl g7 (by exact rfl) D (by exact rfl) uz hn7 rfl hD.sz hD.one ?_
           intro V7 hs7 hS7
           replace hs5 : z80 V7 g5 C := Row.grown hs5 hS7 hne5_7
           replace hbw := zau hbw hS7 jH hle7)
        | (refine z82 (by rfl) _ rfl g5 (by exact rfl) C hs5 hC.sz ?_))
       refine (c2 _ (z5d HW.out hbw)).mono ?_
       rintro e w3 ⟨rfl, hb5⟩
       replace hs5 : z80 w3 g5 C := Row.below hs5 hb5 (Row.lt hs5)
       replace hs7 : z80 w3 g7 D := Row.below hs7 hb5 (Row.lt hs7)
       replace hbw := hbw.trans (hb5.mono hbw.size)
       clear hb5
       go_wp2_with (first
        | (refine zay _ rfl 9 rfl _ rfl oz zvx ?_
           intro W9 g9 hg9 hl9 hn9 hG9
           have hle9 : w.heap.size <= g9 := by have := hbw.size; omega
           have hne5_9 : g5 ≠ g9 := by have := Row.lt hs5; omega
           replace hs5 : z80 W9 g5 C := Row.grown0 hs5 hG9
           have hne7_9 : g7 ≠ g9 := by have := Row.lt hs7; omega
           replace hs7 : z80 W9 g7 D := Row.grown0 hs7 hG9
           replace hbw := zav hbw hG9 jH)
        | (refine zv4 rfl rfl _ _ rfl g9 (by exact rfl) A (by exact rfl) oz hn9 rfl hA.sz hA.one ?_
           intro V9 hs9 hS9
           replace hs5 : z80 V9 g5 C := Row.grown hs5 hS9 hne5_9
           replace hs7 : z80 V9 g7 D := Row.grown hs7 hS9 hne7_9
           replace hbw := zau hbw hS9 jH hle9)
        | (refine z82 (by rfl) _ rfl g7 (by exact rfl) D hs7 hD.sz ?_))
       refine (c3 _ (z5d HW.out hbw)).mono ?_
       rintro e w4 ⟨rfl, hb5⟩
       replace hs5 : z80 w4 g5 C := Row.below hs5 hb5 (Row.lt hs5)
       replace hs7 : z80 w4 g7 D := Row.below hs7 hb5 (Row.lt hs7)
       replace hs9 : zv0 w4 g9 A := Row.below hs9 hb5 (Row.lt hs9)
       replace hbw := hbw.trans (hb5.mono hbw.size)
       clear hb5
       go_wp2_with (first
        | (refine zay _ rfl 11 rfl _ rfl oz zvx ?_
           intro W11 g11 hg11 hl11 hn11 hG11
           have hle11 : w.heap.size <= g11 := by have := hbw.size; omega
           have hne5_11 : g5 ≠ g11 := by have := Row.lt hs5; omega
           replace hs5 : z80 W11 g5 C := Row.grown0 hs5 hG11
           have hne7_11 : g7 ≠ g11 := by have := Row.lt hs7; omega
           replace hs7 : z80 W11 g7 D := Row.grown0 hs7 hG11
           have hne9_11 : g9 ≠ g11 := by have := Row.lt hs9; omega
           replace hs9 : zv0 W11 g9 A := Row.grown0 hs9 hG11
           replace hbw := zav hbw hG11 jH)
        | (refine zv4 rfl rfl _ _ rfl g11 (by exact rfl) B (by exact rfl) oz hn11 rfl hB.sz hB.one ?_
           intro V11 hs11 hS11
           replace hs5 : z80 V11 g5 C := Row.grown hs5 hS11 hne5_11
           replace hs7 : z80 V11 g7 D := Row.grown hs7 hS11 hne7_11
           replace hs9 : zv0 V11 g9 A := Row.grown hs9 hS11 hne9_11
           replace hbw := zau hbw hS11 jH hle11
           obtain ⟨e0, e1, e3, e13, e14⟩ := hC.cell hs5))
       refine (c4 _).mono ?_
       rintro e w5 ⟨rfl, rfl⟩
       go_wp2_with (refine zv2 (by rfl) _ rfl g9 (by exact rfl) A hs9 hA.sz ?_)
       refine (c5 _ (z5d HW.out hbw)).mono ?_
       rintro e w6 ⟨rfl, hb5⟩
       replace hs9 : zv0 w6 g9 A := Row.below hs9 hb5 (Row.lt hs9)
       replace hs11 : zv0 w6 g11 B := Row.below hs11 hb5 (Row.lt hs11)
       replace hbw := hbw.trans (hb5.mono hbw.size)
       clear hb5
       go_wp2_with fail
       refine (p3 _).mono ?_
       rintro e w7 ⟨rfl, hb5⟩
       replace hs9 : zv0 w7 g9 A := Row.below hs9 hb5 (Row.lt hs9)
       replace hs11 : zv0 w7 g11 B := Row.below hs11 hb5 (Row.lt hs11)
       replace hbw := hbw.trans (hb5.mono hbw.size)
       clear hb5
       go_wp2_with (first
        | (refine zay _ rfl 13 rfl _ rfl uz z43 ?_
           intro W13 g13 hg13 hl13 hn13 hG13
           have hle13 : w.heap.size <= g13 := by have := hbw.size; omega
           have hne9_13 : g9 ≠ g13 := by have := Row.lt hs9; omega
           replace hs9 : zv0 W13 g9 A := Row.grown0 hs9 hG13
           have hne11_13 : g11 ≠ g13 := by have := Row.lt hs11; omega
           replace hs11 : zv0 W13 g11 B := Row.grown0 hs11 hG13
           replace hbw := zav hbw hG13 jH)
        | (refine z84 rfl rfl _ _ rfl g13 (by exact rfl) E (by exact rfl) uz hn13 rfl hE.sz hE.one ?_
           intro V13 hs13 hS13
           replace hs9 : zv0 V13 g9 A := Row.grown hs9 hS13 hne9_13
           replace hs11 : zv0 V13 g11 B := Row.grown hs11 hS13 hne11_13
           replace hbw := zau hbw hS13 jH hle13)
        | (refine z82 (by rfl) _ rfl g13 (by exact rfl) E hs13 hE.sz ?_))
       refine (c7 _ (z5d HW.out hbw)).mono ?_
       rintro e w8 ⟨rfl, hb5⟩
       replace hs9 : zv0 w8 g9 A := Row.below hs9 hb5 (Row.lt hs9)
       replace hs11 : zv0 w8 g11 B := Row.below hs11 hb5 (Row.lt hs11)
       replace hbw := hbw.trans (hb5.mono hbw.size)
       clear hb5
       go_upto_region 13 with (first
        | (refine zay _ rfl 15 rfl _ rfl oz zvx ?_
           intro W15 g15 hg15 hl15 hn15 hG15
           have hle15 : w.heap.size <= g15 := by have := hbw.size; omega
           have hne9_15 : g9 ≠ g15 := by have := Row.lt hs9; omega
           replace hs9 : zv0 W15 g9 A := Row.grown0 hs9 hG15
           have hne11_15 : g11 ≠ g15 := by have := Row.lt hs11; omega
           replace hs11 : zv0 W15 g11 B := Row.grown0 hs11 hG15
           replace hbw := zav hbw hG15 jH)
        | (refine zv4 rfl rfl _ _ rfl g15 (by exact rfl) A (by exact rfl) oz hn15 rfl hA.sz hA.one ?_
           intro wd0 hs15 hS15
           replace hs9 : zv0 wd0 g9 A := Row.grown hs9 hS15 hne9_15
           replace hs11 : zv0 wd0 g11 B := Row.grown hs11 hS15 hne11_15
           replace hbw := zau hbw hS15 jH hle15))
       replace hs9 : zv0 wd0.drew g9 A := hs9
       replace hs11 : zv0 wd0.drew g11 B := hs11
       replace hs15 : zv0 wd0.drew g15 A := hs15
       replace hbw := hbw.drew
       refine wp_region_held_drew (S := fun W => zv0 W g9 A /\ zv0 W g11 B /\ zv0 W g15 A) (by kernel_rfl) ⟨hs9, hs11, hs15⟩ (fun _ => ?_)
       generalize wd0.drew = wd at *
       refine wpAnyH_take (i := 0) (v := .agg A) rfl (by kernel_rfl) (by kernel_rfl) (by kernel_rfl) (fun _ _ _ h => h) (zv9 _ rfl (by rfl) g9 (by exact rfl) A (fun W hW => hW.1) hA.sz) ⟨hs9, hs11, hs15⟩ ?_
       try simp only [Act.put, List.getElem_toArray, List.getElem_cons_zero, jqd, jqe, jqf]
       refine wpAnyH_take (i := 1) (v := .agg B) rfl (by kernel_rfl) (by kernel_rfl) (by kernel_rfl) (fun _ _ _ h => h) (zv9 _ rfl (by rfl) g11 (by exact rfl) B (fun W hW => hW.2.1) hB.sz) ⟨hs9, hs11, hs15⟩ ?_
       try simp only [Act.put, List.getElem_toArray, List.getElem_cons_zero, List.getElem_cons_succ, jqd, jqe, jqf]
       refine wpAnyH_take (i := 2) (v := .bool q) rfl (by kernel_rfl) (by kernel_rfl) (by kernel_rfl) (fun _ _ _ h => h) (Or.inl ⟨by rfl, fun W hW => by have h9 := hAB W; go_simp; try (with_reducible rfl)⟩) ⟨hs9, hs11, hs15⟩ ?_
       try simp only [Act.put, List.getElem_toArray, List.getElem_cons_zero, List.getElem_cons_succ, jqd, jqe, jqf]
       refine wpAnyH_take (i := 3) (v := .agg A) rfl (by kernel_rfl) (by kernel_rfl) (by kernel_rfl) (fun _ _ _ h => h) (zv9 _ rfl (by rfl) g9 (by exact rfl) A (fun W hW => hW.1) hA.sz) ⟨hs9, hs11, hs15⟩ ?_
       try simp only [Act.put, List.getElem_toArray, List.getElem_cons_zero, List.getElem_cons_succ, jqd, jqe, jqf]
       refine wpAnyH_take (i := 5) (v := .agg B) rfl (by kernel_rfl) (by kernel_rfl) (by kernel_rfl) (fun _ _ _ h => h) (zv9 _ rfl (by rfl) g11 (by exact rfl) B (fun W hW => hW.2.1) hB.sz) ⟨hs9, hs11, hs15⟩ ?_
       try simp only [Act.put, List.getElem_toArray, List.getElem_cons_zero, List.getElem_cons_succ, jqd, jqe, jqf]
       refine wpAnyH_ready (rs := [4]) (by kernel_rfl) (by simp) (AllReadyH.cons rfl (fun K hK => ?_) AllReadyH.nil)
       go_simp
       go_wp2_with fail
       refine (c5 _ (z5d HW.out hbw)).mono ?_
       rintro e wA ⟨rfl, hbA⟩
       replace hs9 : zv0 wA g9 A := Row.below hs9 hbA (Row.lt hs9)
       replace hs11 : zv0 wA g11 B := Row.below hs11 hbA (Row.lt hs11)
       replace hs15 : zv0 wA g15 A := Row.below hs15 hbA (Row.lt hs15)
       replace hbw := hbw.trans (hbA.mono hbw.size)
       clear hbA
       refine hK.out _ _ ⟨hs9, hs11, hs15⟩ (fun _ => ?_)
       clear hK K
       try simp only [Act.put, List.getElem_toArray, List.getElem_cons_zero, List.getElem_cons_succ, jqd, jqe, jqf]
       refine wpAnyH_ready (rs := [6]) (by kernel_rfl) (by simp) (AllReadyH.cons rfl (fun K hK => ?_) AllReadyH.nil)
       go_simp
       go_wp2_with fail
       refine (c6 _ (z5d HW.out hbw)).mono ?_
       rintro e wA ⟨rfl, hbA⟩
       replace hs9 : zv0 wA g9 A := Row.below hs9 hbA (Row.lt hs9)
       replace hs11 : zv0 wA g11 B := Row.below hs11 hbA (Row.lt hs11)
       replace hs15 : zv0 wA g15 A := Row.below hs15 hbA (Row.lt hs15)
       replace hbw := hbw.trans (hbA.mono hbw.size)
       clear hbA
       refine hK.out _ _ ⟨hs9, hs11, hs15⟩ (fun _ => ?_)
       clear hK K
       try simp only [Act.put, List.getElem_toArray, List.getElem_cons_zero, List.getElem_cons_succ, jqd, jqe, jqf]
       refine wpAnyH_take (i := 7) (v := .bool q) rfl (by kernel_rfl) (by kernel_rfl) (by kernel_rfl) (fun _ _ _ h => h) (Or.inl ⟨by rfl, fun W hW => by go_simp; try (with_reducible rfl)⟩) ⟨hs9, hs11, hs15⟩ ?_
       try simp only [Act.put, List.getElem_toArray, List.getElem_cons_zero, List.getElem_cons_succ, jqd, jqe, jqf]
       refine wpAnyH_take (i := 8) (v := .bool true) rfl (by kernel_rfl) (by kernel_rfl) (by kernel_rfl) (fun _ _ _ h => h) (Or.inl ⟨by rfl, fun W hW => by go_simp; try (with_reducible rfl)⟩) ⟨hs9, hs11, hs15⟩ ?_
       try simp only [Act.put, List.getElem_toArray, List.getElem_cons_zero, List.getElem_cons_succ, jqd, jqe, jqf]
       refine wpAnyH_take (i := 9) (v := .bool true) rfl (by kernel_rfl) (by kernel_rfl) (by kernel_rfl) (fun _ _ _ h => h) (Or.inl ⟨by rfl, fun W hW => by go_simp; try (with_reducible rfl)⟩) ⟨hs9, hs11, hs15⟩ ?_
       try simp only [Act.put, List.getElem_toArray, List.getElem_cons_zero, List.getElem_cons_succ, jqd, jqe, jqf]
       refine wpAnyH_take (i := 10) (v := .int .i64 0) rfl (by kernel_rfl) (by kernel_rfl) (by kernel_rfl) (fun _ _ _ h => h) (Or.inl ⟨by rfl, fun W hW => by go_simp; try (with_reducible rfl)⟩) ⟨hs9, hs11, hs15⟩ ?_
       try simp only [Act.put, List.getElem_toArray, List.getElem_cons_zero, List.getElem_cons_succ, jqd, jqe, jqf]
       refine wpAnyH_take (i := 11) (v := .bool true) rfl (by kernel_rfl) (by kernel_rfl) (by kernel_rfl) (fun _ _ _ h => h) (Or.inl ⟨by rfl, fun W hW => by go_simp; try (with_reducible rfl)⟩) ⟨hs9, hs11, hs15⟩ ?_
       try simp only [Act.put, List.getElem_toArray, List.getElem_cons_zero, List.getElem_cons_succ, jqd, jqe, jqf]
       refine wpAnyH_take (i := 12) (v := .bool true) rfl (by kernel_rfl) (by kernel_rfl) (by kernel_rfl) (fun _ _ _ h => h) (Or.inl ⟨by rfl, fun W hW => by go_simp; try (with_reducible rfl)⟩) ⟨hs9, hs11, hs15⟩ ?_
       try simp only [Act.put, List.getElem_toArray, List.getElem_cons_zero, List.getElem_cons_succ, jqd, jqe, jqf]
       refine wpAnyH_take (i := 13) (v := .bool true) rfl (by kernel_rfl) (by kernel_rfl) (by kernel_rfl) (fun _ _ _ h => h) (Or.inl ⟨by rfl, fun W hW => by go_simp; try (with_reducible rfl)⟩) ⟨hs9, hs11, hs15⟩ ?_
       try simp only [Act.put, List.getElem_toArray, List.getElem_cons_zero, List.getElem_cons_succ, jqd, jqe, jqf]
       refine wpAnyH_take (i := 14) (v := .bool true) rfl (by kernel_rfl) (by kernel_rfl) (by kernel_rfl) (fun _ _ _ h => h) (Or.inl ⟨by rfl, fun W hW => by go_simp; try (with_reducible rfl)⟩) ⟨hs9, hs11, hs15⟩ ?_
       try simp only [Act.put, List.getElem_toArray, List.getElem_cons_zero, List.getElem_cons_succ, jqd, jqe, jqf]
       refine wpAnyH_take (i := 15) (v := .bool true) rfl (by kernel_rfl) (by kernel_rfl) (by kernel_rfl) (fun _ _ _ h => h) (Or.inl ⟨by rfl, fun W hW => by go_simp; try (with_reducible rfl)⟩) ⟨hs9, hs11, hs15⟩ ?_
       try simp only [Act.put, List.getElem_toArray, List.getElem_cons_zero, List.getElem_cons_succ, jqd, jqe, jqf]
       refine wpAnyH_take (i := 16) (v := .bool true) rfl (by kernel_rfl) (by kernel_rfl) (by kernel_rfl) (fun _ _ _ h => h) (Or.inl ⟨by rfl, fun W hW => by go_simp; try (with_reducible rfl)⟩) ⟨hs9, hs11, hs15⟩ ?_
       try simp only [Act.put, List.getElem_toArray, List.getElem_cons_zero, List.getElem_cons_succ, jqd, jqe, jqf]
       refine wpAnyH_take (i := 17) (v := .agg A) rfl (by kernel_rfl) (by kernel_rfl) (by kernel_rfl) (fun _ _ _ h => h) (zv9 _ rfl (by rfl) g15 (by exact rfl) A (fun W hW => hW.2.2) hA.sz) ⟨hs9, hs11, hs15⟩ ?_
       try simp only [Act.put, List.getElem_toArray, List.getElem_cons_zero, List.getElem_cons_succ, jqd, jqe, jqf]
       refine wpAnyH_take (i := 18) (v := .agg A) rfl (by kernel_rfl) (by kernel_rfl) (by kernel_rfl) (fun _ _ _ h => h) (zv9 _ rfl (by rfl) g9 (by exact rfl) A (fun W hW => hW.1) hA.sz) ⟨hs9, hs11, hs15⟩ ?_
       try simp only [Act.put, List.getElem_toArray, List.getElem_cons_zero, List.getElem_cons_succ, jqd, jqe, jqf]
       refine wpAnyH_take (i := 19) (v := .bool true) rfl (by kernel_rfl) (by kernel_rfl) (by kernel_rfl) (fun _ _ _ h => h) (Or.inl ⟨by rfl, fun W hW => by have h9 := hAA W; go_simp; try (with_reducible rfl)⟩) ⟨hs9, hs11, hs15⟩ ?_
       try simp only [Act.put, List.getElem_toArray, List.getElem_cons_zero, List.getElem_cons_succ, jqd, jqe, jqf]
       refine wpAnyH_take (i := 20) (v := .bool true) rfl (by kernel_rfl) (by kernel_rfl) (by kernel_rfl) (fun _ _ _ h => h) (Or.inl ⟨by rfl, fun W hW => by go_simp; try (with_reducible rfl)⟩) ⟨hs9, hs11, hs15⟩ ?_
       try simp only [Act.put, List.getElem_toArray, List.getElem_cons_zero, List.getElem_cons_succ, jqd, jqe, jqf]
       refine wpAnyH_take (i := 21) (v := .bool true) rfl (by kernel_rfl) (by kernel_rfl) (by kernel_rfl) (fun _ _ _ h => h) (Or.inl ⟨by rfl, fun W hW => by go_simp; try (with_reducible rfl)⟩) ⟨hs9, hs11, hs15⟩ ?_
       try simp only [Act.put, List.getElem_toArray, List.getElem_cons_zero, List.getElem_cons_succ, jqd, jqe, jqf]
       refine wpAnyH_ready (rs := [22]) (by kernel_rfl) (by simp) (AllReadyH.cons rfl (fun K hK => ?_) AllReadyH.nil)
       go_simp
       go_wp2_with fail
       refine (cw _ (z5d HW.out hbw)).mono ?_
       rintro e wA ⟨rfl, hbA⟩
       replace hs9 : zv0 wA g9 A := Row.below hs9 hbA (Row.lt hs9)
       replace hs11 : zv0 wA g11 B := Row.below hs11 hbA (Row.lt hs11)
       replace hs15 : zv0 wA g15 A := Row.below hs15 hbA (Row.lt hs15)
       replace hbw := hbw.trans (hbA.mono hbw.size)
       clear hbA
       refine hK.out _ _ ⟨hs9, hs11, hs15⟩ (fun _ => ?_)
       clear hK K
       try simp only [Act.put, List.getElem_toArray, List.getElem_cons_zero, List.getElem_cons_succ, jqd, jqe, jqf]
       refine wpAnyH_take (i := 23) (v := .bool true) rfl (by kernel_rfl) (by kernel_rfl) (by kernel_rfl) (fun _ _ _ h => h) (Or.inl ⟨by rfl, fun W hW => by go_simp; try (with_reducible rfl)⟩) ⟨hs9, hs11, hs15⟩ ?_
       try simp only [Act.put, List.getElem_toArray, List.getElem_cons_zero, List.getElem_cons_succ, jqd, jqe, jqf]
       refine wpAnyH_ready (rs := [24]) (by kernel_rfl) (by simp) (AllReadyH.cons rfl (fun K hK => ?_) AllReadyH.nil)
       go_simp
       refine hK.out _ _ ⟨hs9, hs11, hs15⟩ (fun _ => ?_)
       clear hK K
       try simp only [Act.put, List.getElem_toArray, List.getElem_cons_zero, List.getElem_cons_succ, jqd, jqe, jqf]
       refine wpAnyH_done (by kernel_rfl) ?_ _
       go_wp2
       go_ret
       exact ⟨rfl, hbw⟩
  ·have hm1 : (m : Int) ≠ 0 := by omega
   generalize (m : Int) = mI at *
   have s1 : (mI == 0) = false := by rw [beq_eq_false_iff_ne]; exact hm1
   have s2 : (mI != 0) = true := by rw [bne, s1]; rfl
   generalize (n : Int) = nI at *
   generalize u.cells = C at *
   generalize v.cells = D at *
   clear hm1 hm0 hn0 gu gv su sv
   go_enter Tryz.func6, Tryz.ntmps6
   go_wp2_with fail
   refine cs.mono ?_
   rintro e w0 ⟨rfl, hbs⟩
   have hbw : Below w.heap.size w w0 := by
    rw [<- hbs]
    exact hb0
   clear hbs cs
   go_wp2_with fail
   refine (p1 _).mono ?_
   rintro e w1 ⟨rfl, hb5⟩
   replace hbw := hbw.trans (hb5.mono hbw.size)
   clear hb5
   go_wp2_with (first
    | (refine zay _ rfl 5 rfl _ rfl uz z43 ?_
       intro W5 g5 hg5 hl5 hn5 hG5
       have hle5 : w.heap.size <= g5 := by have := hbw.size; omega
       replace hbw := zav hbw hG5 jH)
    | (refine z84 rfl rfl _ _ rfl g5 (by exact rfl) C (by exact rfl) uz hn5 rfl hC.sz hC.one ?_
       intro V5 hs5 hS5
       replace hbw := zau hbw hS5 jH hle5))
   refine (p2 _).mono ?_
   rintro e w2 ⟨rfl, hb5⟩
   replace hs5 : z80 w2 g5 C := Row.below hs5 hb5 (Row.lt hs5)
   replace hbw := hbw.trans (hb5.mono hbw.size)
   clear hb5
   go_wp2_with (first
    | (refine zay _ rfl 7 rfl _ rfl uz z43 ?_
       intro W7 g7 hg7 hl7 hn7 hG7
       have hle7 : w.heap.size <= g7 := by have := hbw.size; omega
       have hne5_7 : g5 ≠ g7 := by have := Row.lt hs5; omega
       replace hs5 : z80 W7 g5 C := Row.grown0 hs5 hG7
       replace hbw := zav hbw hG7 jH)
    | (refine z84 rfl rfl _ _ rfl g7 (by exact rfl) D (by exact rfl) uz hn7 rfl hD.sz hD.one ?_
       intro V7 hs7 hS7
       replace hs5 : z80 V7 g5 C := Row.grown hs5 hS7 hne5_7
       replace hbw := zau hbw hS7 jH hle7))
   refine (cw _ (z5d HW.out hbw)).mono ?_
   rintro e wA ⟨rfl, hb5⟩
   replace hbw := hbw.trans (hb5.mono hbw.size)
   go_wp2
   go_ret
   exact ⟨rfl, hbw⟩
 ·have hn1 : (n : Int) ≠ 0 := by omega
  generalize (n : Int) = nI at *
  have t1 : (nI == 0) = false := by rw [beq_eq_false_iff_ne]; exact hn1
  have t2 : (nI != 0) = true := by rw [bne, t1]; rfl
  generalize (m : Int) = mI at *
  generalize u.cells = C at *
  generalize v.cells = D at *
  clear hn1 hn0 gu gv su sv
  go_enter Tryz.func6, Tryz.ntmps6
  go_wp2_with fail
  refine cs.mono ?_
  rintro e w0 ⟨rfl, hbs⟩
  have hbw : Below w.heap.size w w0 := by
   rw [<- hbs]
   exact hb0
  clear hbs cs
  go_wp2_with fail
  refine (p1 _).mono ?_
  rintro e w1 ⟨rfl, hb5⟩
  replace hbw := hbw.trans (hb5.mono hbw.size)
  clear hb5
  go_wp2_with (first
   | (refine zay _ rfl 5 rfl _ rfl uz z43 ?_
      intro W5 g5 hg5 hl5 hn5 hG5
      have hle5 : w.heap.size <= g5 := by have := hbw.size; omega
      replace hbw := zav hbw hG5 jH)
   | (refine z84 rfl rfl _ _ rfl g5 (by exact rfl) C (by exact rfl) uz hn5 rfl hC.sz hC.one ?_
      intro V5 hs5 hS5
      replace hbw := zau hbw hS5 jH hle5))
  refine (p2 _).mono ?_
  rintro e w2 ⟨rfl, hb5⟩
  replace hs5 : z80 w2 g5 C := Row.below hs5 hb5 (Row.lt hs5)
  replace hbw := hbw.trans (hb5.mono hbw.size)
  clear hb5
  go_wp2_with (first
   | (refine zay _ rfl 7 rfl _ rfl uz z43 ?_
      intro W7 g7 hg7 hl7 hn7 hG7
      have hle7 : w.heap.size <= g7 := by have := hbw.size; omega
      have hne5_7 : g5 ≠ g7 := by have := Row.lt hs5; omega
      replace hs5 : z80 W7 g5 C := Row.grown0 hs5 hG7
      replace hbw := zav hbw hG7 jH)
   | (refine z84 rfl rfl _ _ rfl g7 (by exact rfl) D (by exact rfl) uz hn7 rfl hD.sz hD.one ?_
      intro V7 hs7 hS7
      replace hs5 : z80 V7 g5 C := Row.grown hs5 hS7 hne5_7
      replace hbw := zau hbw hS7 jH hle7))
  refine (cw _ (z5d HW.out hbw)).mono ?_
  rintro e wA ⟨rfl, hb5⟩
  replace hbw := hbw.trans (hb5.mono hbw.size)
  go_wp2
  go_ret
  exact ⟨rfl, hbw⟩
end

section
open Go.RowKit
set_option maxHeartbeats 16000000
theorem zqy (s : ByteArray) (hs : s.size <= 1000000000) (b : Nat) (hb : b <= 16) (w : World) :
 Calls Tryz.prog 148 #[.string s, .int .u64 b] w fun e w' => e = .returned (.bool ((ls s).all (fun c => decide (zph c < b)))) /\ w = w' := by
 go_enter Tryz.func148, Tryz.ntmps148
 go_wp2
 go_loop [8] (fun i => ∃ k : Nat, k <= s.size /\ i = .int .i64 k /\ Hid ((ls s).all (fun c => decide (zph c < b)) = ((ls s).drop k).all (fun c => decide (zph c < b)))) (fun i => s.size - (intOf i).toNat)
 case atStart => exact ⟨0, Nat.zero_le _, rfl, jL rfl⟩
 case round =>
  obtain ⟨k, hk, rfl, HA⟩ := hrel
  by_cases hlt : k < s.size
  ·have hd := zqh s[k]
   have HD : Hid (((ls s).drop k).all (fun c => decide (zph c < b)) = (decide (zph s[k] < b) && ((ls s).drop (k + 1)).all (fun c => decide (zph c < b)))) := by
    show _ = _
    rw [zcc s k hlt, List.all_cons]
   by_cases hg : zph s[k] < b
   ·have hge : decide ((b : Int) <= ((pd s[k] : Nat) : Int)) = false := jF (by have := (zq6 s[k] b hb).2 hg; omega)
    have HN : Hid ((ls s).all (fun c => decide (zph c < b)) = ((ls s).drop (k + 1)).all (fun c => decide (zph c < b))) := by
     show _ = _
     rw [HA.out, HD.out, jT hg, Bool.true_and]
    clear hg
    generalize ((pd s[k] : Nat) : Int) = d at *
    go_wp2_with (go_at_call 177; refine (hd _).mono ?_; rintro e w' ⟨rfl, rfl⟩)
    go_round
    case rel => exact ⟨k + 1, by omega, by go_num, HN⟩
    case measure => simp [intOf]; omega
   ·have hge : decide ((b : Int) <= ((pd s[k] : Nat) : Int)) = true := jT (by have := mt (zq6 s[k] b hb).1 hg; omega)
    have HN : Hid ((ls s).all (fun c => decide (zph c < b)) = false) := by
     show _ = _
     rw [HA.out, HD.out, jF hg, Bool.false_and]
    clear hg
    generalize ((pd s[k] : Nat) : Int) = d at *
    go_wp2_with (go_at_call 177; refine (hd _).mono ?_; rintro e w' ⟨rfl, rfl⟩)
    go_ret
    exact ⟨zbx HN.out.symm, rfl⟩
  ·obtain rfl : k = s.size := by omega
   have HN : Hid ((ls s).all (fun c => decide (zph c < b)) = true) := by
    show _ = _
    rw [HA.out, zcd]
    rfl
   go_wp2
   go_ret
   exact ⟨zbx HN.out.symm, rfl⟩
end

end Go.Proofs.YtekaljeicfjkjaaGreatDoor
