/-
Contract of ParseNumbers of the reference of layer 10.
The reference's Parse of layer 14 (written by tools/gen-HrP.py).
-/
import Derived.Test.YtekaljeicfjkjaaGreatDoorK27
import Derived.Test.YtekaljeicfjkjaaGreatDoorK34
import Derived.Test.YtekaljeicfjkjaaGreatDoorK32
import Derived.Test.YtekaljeicfjkjaaGreatDoorK23
import Derived.Test.YtekaljeicfjkjaaGreatDoorK10
import Derived.Test.YtekaljeicfjkjaaGreatDoorK09
import Derived.Deep.Cut
import Derived.Deep.CutRange
namespace Go.Proofs.YtekaljeicfjkjaaGreatDoor
section
open Go.RowKit
set_option maxHeartbeats 16000000
theorem zp5 (x : List UInt8) (i acc : Nat) : zql [x] i acc = match zqi x with
 | none => none
 | some n => if n < 256 ^ (4 - i) then some (acc + n) else none := rfl
theorem zp6 (x y : List UInt8) (r : List (List UInt8)) (i acc : Nat) : zql (x :: y :: r) i acc = match zqi x with
 | none => none
 | some n => if n <= 255 then zql (y :: r) (i + 1) (acc + n * 256 ^ (3 - i)) else none := rfl
theorem zp7 {x : List UInt8} (h : zqi x = none) : nV x = 0 /\ nK x = false := by unfold nV nK; rw [h]; exact ⟨rfl, rfl⟩
theorem zp8 {x : List UInt8} {n : Nat} (h : zqi x = some n) : nV x = (zpf n : Nat) /\ nK x = true := by unfold nV nK; rw [h]; exact ⟨rfl, rfl⟩
theorem zp9 (k : Nat) : (256 : Int) ^ k = 2 ^ (8 * k) := by
 rw [Int.pow_mul, show (2 : Int) ^ 8 = 256 by decide]
set_option maxRecDepth 20000 in
theorem zqa (s : ByteArray) (w : World) (hs : s.size <= 1000000000) :
 Calls Tryz.prog 91 #[.string s] w fun e w' => e = .returned (.tuple #[.int .u32 (aV (pnL (ls s))), .bool (aK (pnL (ls s)))]) /\ Below w.heap.size w w' := by
 have hpar := zpe s w hs
 have hpos := zpz (ls s)
 have hlen := zp0 (ls s)
 have hsz := zp2 (ls s)
 have HP : Hid (pnL (ls s) = if 4 < (zqd (ls s)).length then none else zql (zqd (ls s)) 0 0) := jL rfl
 rw [zb4] at hlen hsz
 generalize zqd (ls s) = P at *
 obtain ⟨m, hm⟩ : ∃ n, n = P.length := ⟨_, rfl⟩
 unfold z3t at hpar
 rw [<- hm] at hpar hpos HP hlen
 have HM := jL hm
 have HSZ := jL hsz
 clear hm hsz
 by_cases h4 : 4 < m
 ·have hd : decide ((4 : Int) < (m : Int)) = true := jT (by omega)
  have HQ : Hid (pnL (ls s) = none) := by show _ = _; rw [HP.out, if_pos h4]
  clear HP
  go_enter Tryz.func91, Tryz.ntmps91
  go_wp2_with fail
  refine hpar.mono ?_
  rintro e w1 ⟨A, c, rfl, hmc, hh, hb⟩
  go_wp2
  go_ret2
  exact ⟨by rw [HQ.out]; rfl, hb⟩
 ·have hd : decide ((4 : Int) < (m : Int)) = false := jF (by omega)
  have hm4 : m <= 4 := by omega
  have HQ : Hid (pnL (ls s) = zql P 0 0) := by show _ = _; rw [HP.out, if_neg h4]
  clear HP h4
  go_enter Tryz.func91, Tryz.ntmps91
  go_wp2_with fail
  refine hpar.mono ?_
  rintro e w1 ⟨A, c, rfl, hmc, hh, hb⟩
  have HH := jL hh
  obtain ⟨b, off, rfl, _⟩ := z3u hh 0 hpos
  clear hpar hh
  go_wp2
  go_loopw [5, 6] (fun v i wr => ∃ (k : Nat) (z : Int), k <= m /\ i = .int .i64 k /\ v = .int .i64 z /\ 0 <= z /\ z <= 4294967295 /\ Hid (k < m -> z + 256 ^ (4 - k) <= 4294967296) /\ Hid (zql (P.drop k) k z.toNat = pnL (ls s)) /\ Below w1.heap.size w1 wr) (fun _ i _ => m - (intOf i).toNat)
  case atStart => exact ⟨0, 0, Nat.zero_le _, rfl, rfl, by omega, by omega, jL (fun _ => by decide), jL HQ.out.symm, Below.refl _ _⟩
  case round =>
   obtain ⟨k, z, hk, rfl, rfl, hz0, hz1, HZ, HR, hb2⟩ := hrel
   by_cases hlt : k < m
   ·obtain ⟨b', off', e, hcell⟩ := z3u (HH.out.below hb2) k hlt
    injection e with e
    injection e with e1 e2 _
    subst e1 e2
    have hkP : k < P.length := by rw [<- HM.out]; exact hlt
    have c1 := zpr (bs (P.getD k []))
    rw [zb0, zb5] at c1
    have hxs : (P.getD k []).length <= 1000000000 := by have := HSZ.out _ (zp3 P k [] hkP); omega
    have hdr : P.drop k = P.getD k [] :: P.drop (k + 1) := by
     rw [List.drop_eq_getElem_cons hkP, List.getD_eq_getElem?_getD, List.getElem?_eq_getElem hkP, Option.getD_some]
    have HR2 := HR.out
    rw [hdr] at HR2
    generalize P.getD k [] = x at *
    have HX := jL HR2
    have c2 := fun W => c1 W hxs
    obtain ⟨X, hX⟩ : ∃ X, X = bs x := ⟨_, rfl⟩
    rw [<- hX] at c2 hcell
    clear c1 HR2 hdr HR hX hxs hkP
    have hlast : ((k : Int) == (m : Int) - 1) = decide (k + 1 = m) := by
     apply Bool.eq_iff_iff.2
     simp only [beq_iff_eq, decide_eq_true_eq]
     omega
    cases hx : zqi x with
    | none =>
      obtain ⟨e1, e2⟩ := zp7 hx
      have HY : Hid (pnL (ls s) = none) := by
       show _ = _
       have := HX.out
       cases hr : P.drop (k + 1) with
       | nil => rw [hr, zp5, hx] at this; exact this.symm
       | cons y r => rw [hr, zp6, hx] at this; exact this.symm
      rw [e1, e2] at c2
      clear hx e1 e2 hlast
      go_wp2_with (go_at_call 121; refine (c2 _).mono ?_; rintro e w3 ⟨rfl, hb3⟩)
      go_ret2
      exact ⟨by rw [HY.out]; rfl, hb.trans ((hb2.trans (hb3.mono hb2.size)).mono hb.size)⟩
    | some n =>
      obtain ⟨e1, e2⟩ := zp8 hx
      have hsat := zph n
      obtain ⟨nv', hnv⟩ : ∃ v : Int, v = (zpf n : Nat) := ⟨_, rfl⟩
      rw [<- hnv] at e1
      have hn0 : 0 <= nv' := by omega
      have hn1 : nv' <= 1099511627776 := by omega
      rw [e1, e2] at c2
      by_cases hl : k + 1 = m
      ·rw [jT hl] at hlast
       have HY : Hid (pnL (ls s) = if n < 256 ^ (4 - k) then some (z.toNat + n) else none) := by
        show _ = _
        have := HX.out
        have hd0 : P.drop (k + 1) = [] := List.drop_of_length_le (by rw [<- HM.out]; omega)
        rw [hd0, zp5, hx] at this
        exact this.symm
       obtain ⟨K, hK⟩ : ∃ K : Nat, K = 8 * (4 - k) := ⟨_, rfl⟩
       have hKm : (8 : Int) * (5 - (m : Int)) = (K : Int) := by omega
       have hK32 : K <= 32 := by omega
       have hpK : (2 : Nat) ^ K = 256 ^ (4 - k) := by rw [hK, Nat.pow_mul]
       have hp32 : (2 : Nat) ^ K <= 2 ^ 32 := Nat.pow_le_pow_right (by decide) hK32
       have h232 : (2 : Nat) ^ 32 = 4294967296 := by decide
       have hp1 : 0 < (2 : Nat) ^ K := Nat.pow_pos (by decide)
       obtain ⟨pw, hpw⟩ : ∃ q : Int, (2 : Int) ^ K = q := ⟨_, rfl⟩
       have hpwn : pw = ((2 ^ K : Nat) : Int) := by rw [<- hpw, Int.natCast_pow]; rfl
       have HPW : Hid (pw = ((256 ^ (4 - k) : Nat) : Int)) := by show _ = _; rw [hpwn, hpK]
       have hpw0 : 0 <= pw := by omega
       have hpw1 : pw <= 4294967296 := by omega
       by_cases hge : pw <= nv'
       ·have hdg : decide (pw <= nv') = true := jT hge
        have HYN : Hid (pnL (ls s) = none) := by
         show _ = _
         rw [HY.out, if_neg]
         intro h
         have h1 := (zpi n (256 ^ (4 - k)) (by have := HPW.out; omega)).2 h
         have h2 := HPW.out
         omega
        clear hx e1 e2 hnv hsat hK hpK hp32 h232 hp1 hpwn
        go_wp2_with (go_at_call 121; refine (c2 _).mono ?_; rintro e w3 ⟨rfl, hb3⟩)
        go_ret2
        exact ⟨by rw [HYN.out]; rfl, hb.trans ((hb2.trans (hb3.mono hb2.size)).mono hb.size)⟩
       ·have hdg : decide (pw <= nv') = false := jF hge
        have hnn : nv' = (n : Int) /\ n < 256 ^ (4 - k) := by
         have h1 := HPW.out
         have h2 : zpf n < 256 ^ (4 - k) := by omega
         have h3 := (zpi n (256 ^ (4 - k)) (by omega)).1 h2
         refine ⟨?_, h3⟩
         rw [hnv, zpj n (by omega)]
        have HYN : Hid (zql (P.drop (k + 1)) (k + 1) (z + nv').toNat = pnL (ls s)) := by
         show _ = _
         have hd0 : P.drop (k + 1) = [] := List.drop_of_length_le (by rw [<- HM.out]; omega)
         rw [HY.out, if_pos hnn.2, hd0]
         show some _ = some _
         congr 1
         have := hnn.1
         omega
        have hzn : z + nv' <= 4294967295 := by
         have h1 := HZ.out hlt
         have h2 := HPW.out
         rw [Int.natCast_pow] at h2
         have h3 : ((256 : Nat) : Int) = 256 := rfl
         rw [h3] at h2
         omega
        clear hx e1 e2 hnv hsat hK hpK hp32 h232 hp1 hpwn hnn
        go_wp2_with (go_at_call 121; refine (c2 _).mono ?_; rintro e w3 ⟨rfl, hb3⟩)
        go_roundw
        case rel => exact ⟨k + 1, z + nv', by omega, by go_num, by first | rfl | go_num, by omega, hzn, jL (fun h => by omega), HYN, hb2.trans (hb3.mono hb2.size)⟩
        case measure => simp [intOf]; omega
      ·rw [jF hl] at hlast
       have HY : Hid (pnL (ls s) = if n <= 255 then zql (P.drop (k + 1)) (k + 1) (z.toNat + n * 256 ^ (3 - k)) else none) := by
        show _ = _
        have := HX.out
        have hd1 : 0 < (P.drop (k + 1)).length := by simp; have := HM.out; omega
        cases hr : P.drop (k + 1) with
        | nil => rw [hr] at hd1; simp at hd1
        | cons y r => rw [hr, zp6, hx] at this; exact this.symm
       by_cases hge : (255 : Int) < nv'
       ·have hdg : decide ((255 : Int) < nv') = true := jT hge
        have HYN : Hid (pnL (ls s) = none) := by
         show _ = _
         rw [HY.out, if_neg]
         intro h
         rw [zpj n (by omega)] at hnv
         omega
        clear hx e1 e2 hnv hsat
        go_wp2_with (go_at_call 121; refine (c2 _).mono ?_; rintro e w3 ⟨rfl, hb3⟩)
        go_ret2
        exact ⟨by rw [HYN.out]; rfl, hb.trans ((hb2.trans (hb3.mono hb2.size)).mono hb.size)⟩
       ·have hdg : decide ((255 : Int) < nv') = false := jF hge
        have hnn : nv' = (n : Int) /\ n <= 255 := by
         have h1 : n <= 255 := by
          rcases Nat.lt_or_ge 255 n with h | h
          ·have : 255 < zpf n := by unfold zpf; omega
           omega
          ·exact h
         exact ⟨by rw [hnv, zpj n (by omega)], h1⟩
        obtain ⟨K, hK⟩ : ∃ K : Nat, K = 8 * (3 - k) := ⟨_, rfl⟩
        have hKm : (24 : Int) - 8 * (k : Int) = (K : Int) := by omega
        have hK24 : K <= 24 := by omega
        obtain ⟨y, hy⟩ : ∃ y : Int, y = nv' * 2 ^ K := ⟨_, rfl⟩
        have hpK : (2 : Int) ^ K = 256 ^ (3 - k) := by rw [hK, zp9]
        have hp24 : (2 : Int) ^ K <= 16777216 := by
         have h1 : (2 : Nat) ^ K <= 2 ^ 24 := Nat.pow_le_pow_right (by decide) hK24
         have h2 : (2 : Nat) ^ 24 = 16777216 := by decide
         have h3 : (2 : Int) ^ K = ((2 ^ K : Nat) : Int) := by rw [Int.natCast_pow]; rfl
         omega
        have hp0 : (0 : Int) < 2 ^ K := Int.pow_pos (by decide)
        have hn255 : nv' <= 255 := by omega
        have hy0 : 0 <= y := by rw [hy]; exact Int.mul_nonneg hn0 (Int.le_of_lt hp0)
        have hy1 : y <= 255 * 2 ^ K := by rw [hy]; exact Int.mul_le_mul_of_nonneg_right hn255 (Int.le_of_lt hp0)
        have hyw : IntKind.i64.wrap (nv' * 2 ^ K) = y := by rw [<- hy, IntKind.wrap_i64]; omega
        have hzy : z + y + 256 ^ (4 - (k + 1)) <= 4294967296 := by
         have h1 := HZ.out hlt
         have h2 : (256 : Int) ^ (4 - k) = 256 * 2 ^ K := by
          rw [hpK, show 4 - k = (3 - k) + 1 by omega, Int.pow_succ, Int.mul_comm]
         rw [show 4 - (k + 1) = 3 - k by omega, <- hpK]
         rw [h2] at h1
         omega
        have hzy2 : z + y <= 4294967295 := by
         have h1 : (0 : Int) < 256 ^ (4 - (k + 1)) := Int.pow_pos (by decide)
         omega
        have HYN : Hid (zql (P.drop (k + 1)) (k + 1) (z + y).toNat = pnL (ls s)) := by
         show _ = _
         rw [HY.out, if_pos hnn.2]
         congr 1
         have h1 : y = ((n * 256 ^ (3 - k) : Nat) : Int) := by
          rw [hy, hnn.1, hpK, Int.natCast_mul, Int.natCast_pow]; rfl
         omega
        have HZY := jL hzy
        have hy32 : y <= 4294967295 := by omega
        clear hx e1 e2 hnv hsat hK hy hpK hp24 hp0 hy1 hzy hnn
        go_wp2_with (go_at_call 121; refine (c2 _).mono ?_; rintro e w3 ⟨rfl, hb3⟩)
        go_roundw
        case rel => exact ⟨k + 1, z + y, by omega, by go_num, by first | rfl | go_num, by omega, hzy2, jL (fun _ => HZY.out), HYN, hb2.trans (hb3.mono hb2.size)⟩
        case measure => simp [intOf]; omega
   ·obtain rfl : k = m := by omega
    have HY : Hid (pnL (ls s) = some z.toNat) := by
     show _ = _
     have h := HR.out
     have hd : P.drop k = [] := List.drop_of_length_le (by rw [<- HM.out]; exact jH)
     rw [hd] at h
     exact h.symm
    have HZZ : Hid ((z.toNat : Int) = z) := jL (by omega)
    go_wp2
    go_ret2
    refine ⟨?_, hb.trans (hb2.mono hb.size)⟩
    rw [HY.out]
    unfold aV aK
    rw [Option.getD_some, HZZ.out]
    rfl
end

section
open Go.RowKit Go.Shelf
set_option maxHeartbeats 16000000
theorem zjd (x : List UInt8) : ∀ Q : List (List UInt8), z3k 46 (Q ++ [x]) = z3k 46 Q ++ ((if Q = [] then [] else [46]) ++ x)
 | [] => rfl
 | [a] => rfl
 | a :: b :: r => by
   have ih := zjd x (b :: r)
   rw [if_neg (by simp)] at ih ⊢
   rw [List.cons_append, z3l 46 a _ (by simp), ih, z3l 46 a (b :: r) (by simp)]
   simp
theorem zje (c : UInt8) : ∀ (l cur : List UInt8), ∀ x ∈ z3a c l cur, x.length <= cur.length + l.length
 | [], cur, x, h => by
   rw [z3a] at h
   simp at h
   rw [h]
   simp
 | b :: l, cur, x, h => by
   rw [z3a] at h
   split at h
   ·rcases List.mem_cons.1 h with rfl | h
    ·simp
    ·have := zje c l [] x h
     simp at this ⊢
     omega
   ·have := zje c l (cur ++ [b]) x h
    simp at this ⊢
    omega
theorem zjf (c : UInt8) (l x : List UInt8) (h : x ∈ z3b c l) : x.length <= l.length := by
 have := zje c l [] x h
 simpa using this
def nmB (p : List (List UInt8)) : List (List UInt8) := p.map fun x => (toA x).2
theorem zjg : ∀ p : List (List UInt8), (∀ x ∈ p, (toA x).1 = 0) -> zhg p = (0, nmB p)
 | [], _ => rfl
 | x :: r, h => by
   have ih := zjg r (fun y hy => h y (by simp [hy]))
   rw [zhg, if_pos (h x (by simp)), ih]
   rfl
theorem zjh : ∀ (p : List (List UInt8)) (x : List UInt8) (t : List (List UInt8)), (∀ y ∈ p, (toA y).1 = 0) -> (toA x).1 ≠ 0 -> zhg (p ++ x :: t) = ((toA x).1, [])
 | [], x, t, _, hx => by rw [List.nil_append, zhg, if_neg hx]
 | y :: r, x, t, h, hx => by
   have ih := zjh r x t (fun z hz => h z (by simp [hz])) hx
   rw [List.cons_append, zhg, if_pos (h y (by simp)), ih, if_neg hx]
theorem zji {p : List (List UInt8)} (h : ∀ x ∈ p, (toA x).1 = 0) : ∀ y ∈ nmB p, y.length <= 63 := by
 intro y hy
 obtain ⟨x, hx, rfl⟩ := List.mem_map.1 hy
 rcases ztc x with ⟨_, h2⟩ | ⟨h2, _⟩
 ·exact (zs8 h2).2.2
 ·exact absurd (h x hx) h2
theorem zjj (q : List (List UInt8)) (h : ∀ x ∈ q, x.length <= 63) : (z3k 46 q).length <= 64 * q.length := zfa q h
theorem zjk {l : List UInt8} (hn : zqk l = false) : zhu l = if (zhg (z3b 46 l)).1 = 0 then jN (zhg (z3b 46 l)).2 else ((zhg (z3b 46 l)).1, hv0) := by
 unfold zhu jN
 rw [if_neg (by rw [hn]; simp)]
theorem zjl {l : List UInt8} (hn : zqk l = true) : zhu l = pN l := by
 unfold zhu pN
 rw [if_pos hn]
 cases pnL l <;> rfl
theorem zjm (t : List UInt8) : zrx t = if t.getLast? = some 46 then t.take (t.length - 1) else t := by
 unfold zrx
 split
 ·rw [List.dropLast_eq_take]
 ·rfl
theorem zjn (s : ByteArray) (h : 0 < s.size) : (ls s).getLast? = some (s[s.size - 1]'(by omega)) := by
 rw [List.getLast?_eq_getElem?, zb4]
 exact zb7 s (s.size - 1) (by omega)
theorem zjo (s : ByteArray) (h : 0 < s.size) : (s.toList == ([] : List UInt8)) = false /\ s.toList.isEmpty = false := by
 rw [zb3]
 have hl := zb4 s
 cases hs : ls s with
 | nil => rw [hs] at hl; simp at hl; omega
 | cons a r => exact ⟨rfl, rfl⟩
theorem zjp (s : ByteArray) (h : s.size = 0) : (s.toList == ([] : List UInt8)) = true /\ s.toList.isEmpty = true := by
 rw [zb3]
 have hl := zb4 s
 cases hs : ls s with
 | nil => exact ⟨rfl, rfl⟩
 | cons a r => rw [hs] at hl; simp at hl; omega
set_option maxRecDepth 100000 in
theorem zjq (s : ByteArray) (w : World) (hs : s.size <= 100000000) (h1 : 1024 < s.size) : Calls Tryz.prog 61 #[.string s] w (zeh w (zhw (ls s))) := by
 have hr : zgy (w.alloc (.cells hz 26)) w.heap.size hz := zat w _ _
 have hb : Below w.heap.size w (w.alloc (.cells hz 26)) := (Below.refl _ _).alloc jH _
 ·have e : zhw (ls s) = (3, hv0) := by unfold zhw; rw [if_pos (by rw [zb4]; exact h1)]
  rw [e]
  have hd : decide ((1024 : Int) < (s.size : Int)) = true := jT (by omega)
  clear h1 e
  go_enter Tryz.func61, Tryz.ntmps61
  go_wp2_with (refine zee rfl rfl _ _ rfl w.heap.size (by exact rfl) hz (by exact rfl) _ hr rfl rfl (zgv _ _ _ _) ?_; intro wz hrz hgz)
  exact zg1 2 3 rfl w.heap.size rfl hz hrz rfl _ rfl rfl ⟨rfl, zau hb hgz jH jH⟩
set_option maxRecDepth 100000 in
theorem zjr (s : ByteArray) (w : World) (hs : s.size <= 100000000) (h1 : ¬ 1024 < s.size) (hh : (ls s).head? = some 91) : Calls Tryz.prog 61 #[.string s] w (zeh w (zhw (ls s))) := by
 have hr : zgy (w.alloc (.cells hz 26)) w.heap.size hz := zat w _ _
 have hb : Below w.heap.size w (w.alloc (.cells hz 26)) := (Below.refl _ _).alloc jH _
 have hd : decide ((1024 : Int) < (s.size : Int)) = false := jF (by omega)
 ·have h0 : 0 < s.size := by
   have hl := zb4 s
   cases hls : ls s with
   | nil => rw [hls] at hh; cases hh
   | cons a r => rw [hls] at hl; simp at hl; omega
  obtain ⟨em1, em2⟩ := zjo s h0
  have hb0 : ((s[0].toNat : Int) == 91) = true := by
   rw [zrm s h0] at hh
   injection hh with hh
   rw [hh]; rfl
  have e : zhw (ls s) = zhv (ls s) := by unfold zhw; rw [if_neg (by rw [zb4]; exact h1), if_pos hh]
  rw [e]
  have hlast := zjn s h0
  obtain ⟨m, hm⟩ : ∃ m, m = s.size - 1 := ⟨_, rfl⟩
  have hm2 : m < s.size := by omega
  have hlast2 : (ls s).getLast? = some s[m] := by rw [hlast]; congr 2; exact hm.symm
  have hm3 : (s.size : Int) - 1 = (m : Int) := by omega
  clear hlast e h1 hm
  by_cases hq : s[m] = 93 /\ 2 <= s.size
  ·have q1 : ((s[m].toNat : Int) == 93) = true := by rw [hq.1]; rfl
   have q2 : ((s[m].toNat : Int) != 93) = false := by rw [bne, q1]; rfl
   have q3 : decide ((s.size : Int) < 2) = false := jF (by omega)
   have e6 : zhv (ls s) = match znu (ls (s.extract 1 m)) with | none => (14, hv0) | some g => (0, hv6 g) := by
    unfold zhv
    rw [if_neg (by rw [hlast2, hq.1, zb4]; simp; omega), zb9, List.dropLast_eq_take, List.length_drop, zb4]
    rw [show s.size - 1 - 1 = m - 1 by omega]
    rfl
   rw [e6]
   have hsz : (s.extract 1 m).size <= 1000000000 := by rw [<- zb4, zb9, List.length_take, List.length_drop, zb4]; omega
   have c := fun W => zkt (s.extract 1 m) W hsz
   have hm1 : 1 <= m := by omega
   clear e6 hsz hlast2 hh hq
   cases hp : znu (ls (s.extract 1 m)) with
   | none =>
     rw [hp] at c
     rw [show av (zkn none) = #[.int .u16 0, .int .u16 0, .int .u16 0, .int .u16 0, .int .u16 0, .int .u16 0, .int .u16 0, .int .u16 0] from rfl, show (none : Option (List Nat)).isSome = false from rfl] at c
     clear hp
     go_enter Tryz.func61, Tryz.ntmps61
     go_wp2_with fail
     refine (c _).mono ?_
     rintro e w1 ⟨rfl, hbn⟩
     replace hr : zgy w1 w.heap.size hz := Row.below hr hbn hr.lt
     replace hb := hb.trans (hbn.mono hb.size)
     clear hbn
     replace hr : zgy (w1.alloc (.cells #[.int .u16 0, .int .u16 0, .int .u16 0, .int .u16 0, .int .u16 0, .int .u16 0, .int .u16 0, .int .u16 0] 24)) w.heap.size hz := Row.grown0 hr (World.grownBy_alloc _ _ _)
     replace hb := hb.alloc hb.size (.cells #[.int .u16 0, .int .u16 0, .int .u16 0, .int .u16 0, .int .u16 0, .int .u16 0, .int .u16 0, .int .u16 0] 24)
     go_wp2_with (refine zee rfl rfl _ _ rfl w.heap.size (by exact rfl) hz (by exact rfl) _ hr rfl rfl (zgv _ _ _ _) ?_; intro wz hrz hgz)
     exact zg1 2 3 rfl w.heap.size rfl hz hrz rfl _ rfl rfl ⟨rfl, zau hb hgz jH jH⟩
   | some g =>
     have hg8 : g.length = 8 := (ziu hp).1
     rw [hp] at c
     obtain ⟨x0, x1, x2, x3, x4, x5, x6, x7, rfl⟩ := zf5 g hg8
     rw [show av (zkn (some [x0, x1, x2, x3, x4, x5, x6, x7])) = #[.int .u16 (x0 : Nat), .int .u16 (x1 : Nat), .int .u16 (x2 : Nat), .int .u16 (x3 : Nat), .int .u16 (x4 : Nat), .int .u16 (x5 : Nat), .int .u16 (x6 : Nat), .int .u16 (x7 : Nat)] from rfl, show (some [x0, x1, x2, x3, x4, x5, x6, x7]).isSome = true from rfl] at c
     clear hp hg8
     go_enter Tryz.func61, Tryz.ntmps61
     go_wp2_with fail
     refine (c _).mono ?_
     rintro e w1 ⟨rfl, hbn⟩
     replace hr : zgy w1 w.heap.size hz := Row.below hr hbn hr.lt
     replace hb := hb.trans (hbn.mono hb.size)
     clear hbn
     replace hr : zgy (w1.alloc (.cells #[.int .u16 (x0 : Nat), .int .u16 (x1 : Nat), .int .u16 (x2 : Nat), .int .u16 (x3 : Nat), .int .u16 (x4 : Nat), .int .u16 (x5 : Nat), .int .u16 (x6 : Nat), .int .u16 (x7 : Nat)] 24)) w.heap.size hz := Row.grown0 hr (World.grownBy_alloc _ _ _)
     replace hb := hb.alloc hb.size (.cells #[.int .u16 (x0 : Nat), .int .u16 (x1 : Nat), .int .u16 (x2 : Nat), .int .u16 (x3 : Nat), .int .u16 (x4 : Nat), .int .u16 (x5 : Nat), .int .u16 (x6 : Nat), .int .u16 (x7 : Nat)] 24)
     go_wp2_with (refine zee rfl rfl _ _ rfl w.heap.size (by exact rfl) (hc 3 ⟨#[]⟩ 0 [x0, x1, x2, x3, x4, x5, x6, x7]) (by exact rfl) _ hr rfl rfl (zgv _ _ _ _) ?_; intro wz hrz hgz)
     exact zg1 2 3 rfl w.heap.size rfl (hc 3 ⟨#[]⟩ 0 [x0, x1, x2, x3, x4, x5, x6, x7]) hrz rfl _ rfl rfl ⟨rfl, zau hb hgz jH jH⟩
  ·have e6 : zhv (ls s) = (14, hv0) := by
    unfold zhv
    rw [if_pos]
    rw [hlast2, zb4]
    by_cases h93 : s[m] = 93
    ·exact .inr (by have : ¬ 2 <= s.size := fun h => hq ⟨h93, h⟩; omega)
    ·left
     intro h
     injection h with h
     exact h93 h
   rw [e6]
   have hq2 : ((s[m].toNat : Int) != 93) = true \/ (((s[m].toNat : Int) != 93) = false /\ decide ((s.size : Int) < 2) = true) := by
    by_cases h93 : s[m] = 93
    ·right
     have : ((s[m].toNat : Int) == 93) = true := by rw [h93]; rfl
     exact ⟨by rw [bne, this]; rfl, jT (by have : ¬ 2 <= s.size := fun h => hq ⟨h93, h⟩; omega)⟩
    ·left
     have : ((s[m].toNat : Int) == 93) = false := zrp h93
     rw [bne, this]; rfl
   clear e6 hlast2 hh hq
   rcases hq2 with q1 | ⟨q1, q2⟩
   ·skip
    go_enter Tryz.func61, Tryz.ntmps61
    go_wp2_with (refine zee rfl rfl _ _ rfl w.heap.size (by exact rfl) hz (by exact rfl) _ hr rfl rfl (zgv _ _ _ _) ?_; intro wz hrz hgz)
    exact zg1 2 3 rfl w.heap.size rfl hz hrz rfl _ rfl rfl ⟨rfl, zau hb hgz jH jH⟩
   ·skip
    go_enter Tryz.func61, Tryz.ntmps61
    go_wp2_with (refine zee rfl rfl _ _ rfl w.heap.size (by exact rfl) hz (by exact rfl) _ hr rfl rfl (zgv _ _ _ _) ?_; intro wz hrz hgz)
    exact zg1 2 3 rfl w.heap.size rfl hz hrz rfl _ rfl rfl ⟨rfl, zau hb hgz jH jH⟩
set_option maxRecDepth 100000 in
theorem zjs (s : ByteArray) (w : World) (hs : s.size <= 100000000) (h1 : ¬ 1024 < s.size) (hh : ¬ (ls s).head? = some 91) : Calls Tryz.prog 61 #[.string s] w (zeh w (zhw (ls s))) := by
 have hr : zgy (w.alloc (.cells hz 26)) w.heap.size hz := zat w _ _
 have hb : Below w.heap.size w (w.alloc (.cells hz 26)) := (Below.refl _ _).alloc jH _
 have hd : decide ((1024 : Int) < (s.size : Int)) = false := jF (by omega)
 ·have hd2 : (s.toList.isEmpty = true /\ (s.toList == ([] : List UInt8)) = true) \/ (s.toList.isEmpty = false /\ (s.toList == ([] : List UInt8)) = false /\ ∃ h : 0 < s.size, ((s[0].toNat : Int) == 91) = false) := by
   by_cases h0 : 0 < s.size
   ·right
    obtain ⟨em1, em2⟩ := zjo s h0
    refine ⟨em2, em1, h0, zrp (c := 91) (fun e => hh ?_)⟩
    rw [zrm s h0, e]
   ·left
    obtain ⟨em1, em2⟩ := zjp s (by omega)
    exact ⟨em2, em1⟩
  have cD := fun W => zi8 s hs W
  have ep : zhw (ls s) = match zg9 (ls s) with | none => (14, hv0) | some t => zhu (zrx t) := by unfold zhw; rw [if_neg (by rw [zb4]; exact h1), if_neg hh]; cases zg9 (ls s) <;> rfl
  rw [ep]
  clear ep hh
  cases hp : zg9 (ls s) with
  | none =>
    rw [hp] at cD
    rw [show bs ((none : Option (List UInt8)).getD []) = ⟨#[]⟩ from rfl, show (none : Option (List UInt8)).isSome = false from rfl] at cD
    clear hp
    rcases hd2 with ⟨em2, em1⟩ | ⟨em2, em1, h0, hb0⟩
    ·skip
     go_enter Tryz.func61, Tryz.ntmps61
     go_wp2_with fail
     refine (cD _).mono ?_
     rintro e w1 ⟨rfl, hbn⟩
     replace hr : zgy w1 w.heap.size hz := Row.below hr hbn hr.lt
     replace hb := hb.trans (hbn.mono hb.size)
     clear hbn
     go_wp2_with (refine zee rfl rfl _ _ rfl w.heap.size (by exact rfl) hz (by exact rfl) _ hr rfl rfl (zgv _ _ _ _) ?_; intro wz hrz hgz)
     exact zg1 2 3 rfl w.heap.size rfl hz hrz rfl _ rfl rfl ⟨rfl, zau hb hgz jH jH⟩
    ·skip
     go_enter Tryz.func61, Tryz.ntmps61
     go_wp2_with fail
     refine (cD _).mono ?_
     rintro e w1 ⟨rfl, hbn⟩
     replace hr : zgy w1 w.heap.size hz := Row.below hr hbn hr.lt
     replace hb := hb.trans (hbn.mono hb.size)
     clear hbn
     go_wp2_with (refine zee rfl rfl _ _ rfl w.heap.size (by exact rfl) hz (by exact rfl) _ hr rfl rfl (zgv _ _ _ _) ?_; intro wz hrz hgz)
     exact zg1 2 3 rfl w.heap.size rfl hz hrz rfl _ rfl rfl ⟨rfl, zau hb hgz jH jH⟩
  | some t =>
    show Calls _ _ _ _ (zeh w (zhu (zrx t)))
    rw [hp] at cD
    have htl := zfp hp
    rw [zb4] at htl
    rw [show (some t).getD [] = t from rfl, show (some t).isSome = true from rfl] at cD
    clear hp
    obtain ⟨T, hT⟩ : ∃ T, T = bs t := ⟨_, rfl⟩
    have hTl : ls T = t := by rw [hT, zb0]
    have hTz : T.size <= 1024 := by rw [hT, zb5]; omega
    rw [<- hT] at cD
    clear hT
    subst hTl
    obtain ⟨U, hU⟩ : ∃ U, U = bs (zrx (ls T)) := ⟨_, rfl⟩
    have hUl : ls U = zrx (ls T) := by rw [hU, zb0]
    have hUz : U.size <= 1024 := by rw [hU, zb5]; have := zfq (ls T); rw [zb4] at this; omega
    rw [<- hUl]
    have hdot : (U = T /\ (T.toList.isEmpty = true /\ (T.toList == ([] : List UInt8)) = true \/ T.toList.isEmpty = false /\ (T.toList == ([] : List UInt8)) = false /\ ∃ (m : Nat) (h : m < T.size), (T.size : Int) - 1 = (m : Int) /\ ((T[m].toNat : Int) == 46) = false)) \/
     (T.toList.isEmpty = false /\ (T.toList == ([] : List UInt8)) = false /\ ∃ (m : Nat) (h : m < T.size), (T.size : Int) - 1 = (m : Int) /\ ((T[m].toNat : Int) == 46) = true /\ T.extract 0 m = U) := by
     by_cases h0 : 0 < T.size
     ·obtain ⟨em1, em2⟩ := zjo T h0
      have hl := zjn T h0
      have hm3 : (T.size : Int) - 1 = ((T.size - 1 : Nat) : Int) := by omega
      by_cases h46 : T[T.size - 1]'(by omega) = 46
      ·right
       refine ⟨em2, em1, T.size - 1, by omega, hm3, by rw [h46]; rfl, ?_⟩
       rw [hU, zjm, hl, h46, if_pos rfl, zb4]
       have := zb9 T 0 (T.size - 1)
       rw [List.drop_zero, Nat.sub_zero] at this
       rw [<- this, zb1]
      ·left
       refine ⟨?_, .inr ⟨em2, em1, T.size - 1, by omega, hm3, zrp h46⟩⟩
       rw [hU, zjm, hl, if_neg, zb1]
       intro h
       injection h with h
       exact h46 h
     ·obtain ⟨em1, em2⟩ := zjp T (by omega)
      left
      refine ⟨?_, .inl ⟨em2, em1⟩⟩
      have : ls T = [] := List.length_eq_zero_iff.1 (by rw [zb4]; omega)
      rw [hU, this, show zrx [] = [] from rfl, <- this, zb1]
    have HDOT := jL hdot
    clear hdot
    have HUl := jL hUl
    have cN := fun W => zp4 U W (by omega)
    have cP := fun W => zqa U W (by omega)
    have cS := fun W => z16 U 46 W (by omega)
    clear hU hUl
    have hmain : ∀ (sl : Array Value) (W : World) (K : Prop), True := fun _ _ _ => trivial
    clear hmain
    obtain ⟨R, hR⟩ : ∃ R, R = zhu (ls U) := ⟨_, rfl⟩
    rw [<- hR]
    have HR := jL hR
    clear hR
    rcases hd2 with ⟨em2, em1⟩ | ⟨em2, em1, h0, hb0⟩
    all_goals
     go_enter Tryz.func61, Tryz.ntmps61
     go_wp2_with fail
     refine (cD _).mono ?_
     rintro e w1 ⟨rfl, hbn⟩
     replace hr : zgy w1 w.heap.size hz := Row.below hr hbn hr.lt
     replace hb := hb.trans (hbn.mono hb.size)
     clear hbn
     clear em2 em1 cD
     obtain ⟨qd, hqd⟩ : ∃ q : Bool, (q = false /\ U = T /\ (T.toList.isEmpty = true /\ (T.toList == ([] : List UInt8)) = true \/ T.toList.isEmpty = false /\ (T.toList == ([] : List UInt8)) = false /\ ∃ (m : Nat) (h : m < T.size), (T.size : Int) - 1 = (m : Int) /\ ((T[m].toNat : Int) == 46) = false)) \/
      (q = true /\ T.toList.isEmpty = false /\ (T.toList == ([] : List UInt8)) = false /\ ∃ (m : Nat) (h : m < T.size), (T.size : Int) - 1 = (m : Int) /\ ((T[m].toNat : Int) == 46) = true /\ T.extract 0 m = U) := by
      rcases HDOT.out with h | h
      ·exact ⟨false, .inl ⟨rfl, h⟩⟩
      ·exact ⟨true, .inr ⟨rfl, h⟩⟩
     have HQD := jL hqd
     clear hqd HDOT
     go_upto_region 13 with fail
     go_cut [69] from 60 to 69 (fun v wx => wx = w1 /\ v = .bool qd)
     case first =>
      rcases HQD.out with ⟨rfl, rfl, ⟨em2, em1⟩ | ⟨em2, em1, m, hm, hm3, hq⟩⟩ | ⟨rfl, em2, em1, m, hm, hm3, hq, hX⟩
      ·go_wp2_with fail
       go_meet
       exact ⟨rfl, rfl⟩
      ·go_wp2_with fail
       go_meet
       exact ⟨rfl, rfl⟩
      ·go_wp2_with fail
       go_meet
       exact ⟨rfl, rfl⟩
     obtain ⟨hwx, hvx⟩ := hcut
     subst hwx
     subst hvx
     go_upto_if 69 with fail
     go_cut [6] from 70 to 74 (fun v wx => wc = wx /\ v = .string U)
     case first =>
      rcases HQD.out with ⟨rfl, rfl, _⟩ | ⟨rfl, em2, em1, m, hm, hm3, hq, hX⟩
      ·go_wp2_with fail
       go_meet
       exact ⟨rfl, rfl⟩
      ·go_wp2_with fail
       go_meet
       exact ⟨rfl, by rw [<- hX]⟩
     case rest =>
      obtain ⟨hwx, hvx⟩ := hcut
      subst hwx
      subst hvx
      clear HQD
      cases hn : zqk (ls U) with
      | true =>
        rw [hn] at cN
        have hRN := HR.out
        rw [zjl hn] at hRN
        clear hn cS
        unfold pN at hRN
        cases hp : pnL (ls U) with
        | none =>
          rw [hp] at cP hRN
          have HRN := jL hRN
          clear hRN
          rw [show aV none = 0 from rfl, show aK none = false from rfl] at cP
          clear hp
          go_wp2_with fail
          refine (cN _).mono ?_
          rintro e w2 ⟨rfl, hbn⟩
          replace hr : zgy w2 w.heap.size hz := Row.below hr hbn hr.lt
          replace hb := hb.trans (hbn.mono hb.size)
          clear hbn
          go_wp2_with fail
          refine (cP _).mono ?_
          rintro e w3 ⟨rfl, hbn⟩
          replace hr : zgy w3 w.heap.size hz := Row.below hr hbn hr.lt
          replace hb := hb.trans (hbn.mono hb.size)
          clear hbn
          go_wp2_with (refine zee rfl rfl _ _ rfl w.heap.size (by exact rfl) hz (by exact rfl) _ hr rfl rfl (zgv _ _ _ _) ?_; intro wz hrz hgz)
          exact zg1 2 3 rfl w.heap.size rfl hz hrz rfl _ rfl rfl ⟨by rw [HRN.out]; rfl, zau hb hgz jH jH⟩
        | some v =>
          rw [hp] at cP hRN
          have HRN := jL hRN
          clear hRN
          rw [show aV (some v) = (v : Int) from rfl, show aK (some v) = true from rfl] at cP
          clear hp
          go_wp2_with fail
          refine (cN _).mono ?_
          rintro e w2 ⟨rfl, hbn⟩
          replace hr : zgy w2 w.heap.size hz := Row.below hr hbn hr.lt
          replace hb := hb.trans (hbn.mono hb.size)
          clear hbn
          go_wp2_with fail
          refine (cP _).mono ?_
          rintro e w3 ⟨rfl, hbn⟩
          replace hr : zgy w3 w.heap.size hz := Row.below hr hbn hr.lt
          replace hb := hb.trans (hbn.mono hb.size)
          clear hbn
          go_wp2_with (refine zee rfl rfl _ _ rfl w.heap.size (by exact rfl) (hc 2 ⟨#[]⟩ (v : Nat) z8) (by exact rfl) _ hr rfl rfl (zgv _ _ _ _) ?_; intro wz hrz hgz)
          exact zg1 2 3 rfl w.heap.size rfl (hc 2 ⟨#[]⟩ (v : Nat) z8) hrz rfl _ rfl rfl ⟨by rw [HRN.out]; rfl, zau hb hgz jH jH⟩
      | false =>
        rw [hn] at cN
        have hRN := HR.out
        rw [zjk hn] at hRN
        clear hn cP
        have hPl := z3f 46 (ls U)
        rw [zb4] at hPl
        have hPs : ∀ x ∈ z3b 46 (ls U), x.length <= 1024 := fun x hx => Nat.le_trans (zjf 46 (ls U) x hx) (by rw [zb4]; exact hUz)
        generalize z3b 46 (ls U) = P at *
        have HRN := jL hRN
        clear hRN
        go_wp2_with fail
        refine (cN _).mono ?_
        rintro e w2 ⟨rfl, hbn⟩
        replace hr : zgy w2 w.heap.size hz := Row.below hr hbn hr.lt
        replace hb := hb.trans (hbn.mono hb.size)
        clear hbn
        go_wp2_with fail
        refine (cS _).mono ?_
        rintro e w3 ⟨v, n, rfl, hown, hbn⟩
        obtain ⟨A, c, rfl, hh9, hnc⟩ := Has.of_own hown
        obtain rfl : n = P.length := by have := hh9.1; rw [z4a] at this; exact this.symm
        replace hr : zgy w3 w.heap.size hz := Row.below hr hbn hr.lt
        replace hb := hb.trans (hbn.mono hb.size)
        clear hbn hown cS cN
        have HP1 := jL hPl
        have HPS := jL hPs
        clear hPl hPs
        obtain ⟨B3, hB3⟩ : ∃ b, b = w3.heap.size := ⟨_, rfl⟩
        have hB3' : B3 <= w3.heap.size := by omega
        rw [<- hB3] at hh9
        clear hB3
        go_wp2
        go_loopw [10, 12] (fun v i wr => ∃ k : Nat, k <= P.length /\ i = .int .i64 k /\ v = .string (bs (z3k 46 (nmB (P.take k)))) /\ Hid (∀ x ∈ P.take k, (toA x).1 = 0) /\ Has wr B3 A P.length (wv P) /\ B3 <= wr.heap.size /\ zgy wr w.heap.size hz /\ Below w.heap.size w wr) (fun _ i _ => P.length - (intOf i).toNat)
        case atStart => exact ⟨0, Nat.zero_le _, rfl, rfl, jL (fun x hx => by cases hx), hh9, hB3', hr, hb⟩
        case round =>
         clear hh9 hB3' hr hb
         obtain ⟨k, hk, rfl, rfl, HOK, hh9, hB3', hr, hb⟩ := hrel
         by_cases hlt : k < P.length
         ·obtain ⟨b, off, hA, hbB, hc⟩ := hh9.at_ hlt
          rw [z4b P k hlt] at hc
          have hk9 : k <= 2000 := by have := HP1.out; omega
          have hxz : P[k].length <= 1024 := HPS.out _ (List.getElem_mem hlt)
          have cT := fun W => zu2 (bs P[k]) W (by rw [zb5]; omega)
          have htk : P.take (k + 1) = P.take k ++ [P[k]] := by rw [List.take_succ_eq_append_getElem hlt]
          have hPe : P = P.take k ++ P[k] :: P.drop (k + 1) := by rw [<- List.drop_eq_getElem_cons hlt, List.take_append_drop]
          by_cases h0 : (toA P[k]).1 = 0
          ·have hok2 : ∀ x ∈ P.take (k + 1), (toA x).1 = 0 := by
            intro x hx
            rw [htk] at hx
            rcases List.mem_append.1 hx with hx | hx
            ·exact HOK.out x hx
            ·simp at hx
             rw [hx]
             exact h0
           have HOK2 := jL hok2
           have hJ0 := zjj (nmB (P.take k)) (zji HOK.out)
           have hJl : (nmB (P.take k)).length <= 1025 := by unfold nmB; rw [List.length_map, List.length_take]; have := HP1.out; omega
           have hy1 : (toA P[k]).2.length <= 63 := by
            have := zji hok2 (toA P[k]).2 (by rw [htk]; unfold nmB; rw [List.map_append]; exact List.mem_append_right _ (by simp))
            exact this
           obtain ⟨Y, hY⟩ : ∃ Y, Y = bs (toA P[k]).2 := ⟨_, rfl⟩
           obtain ⟨X, hX⟩ : ∃ X, X = bs (z3k 46 (nmB (P.take k))) := ⟨_, rfl⟩
           have hXz : X.size <= 100000 := by rw [hX, zb5]; omega
           have hYz : Y.size <= 63 := by rw [hY, zb5]; exact hy1
           rw [zb0, <- hY, h0] at cT
           simp only [show ((0 : Nat) : Int) = 0 from rfl] at cT
           rw [<- hX]
           have HN : Hid (bs (z3k 46 (nmB (P.take (k + 1)))) = if k = 0 then X ++ Y else X ++ ⟨#[46]⟩ ++ Y) := by
            refine jL ?_
            have e9 : nmB (P.take (k + 1)) = nmB (P.take k) ++ [(toA P[k]).2] := by unfold nmB; rw [htk, List.map_append]; rfl
            have e8 : nmB (P.take k) = [] ↔ k = 0 := by
             unfold nmB
             rw [List.map_eq_nil_iff, List.take_eq_nil_iff]
             constructor
             ·rintro (h | h)
              ·exact h
              ·rw [h] at hlt; simp at hlt
             ·exact .inl
            rw [e9, zjd]
            by_cases hk0 : k = 0
            ·rw [if_pos (e8.2 hk0), if_pos hk0]
             apply zb2
             rw [zb6, hX, hY, zb0, zb0, zb0]
             rfl
            ·rw [if_neg (fun h => hk0 (e8.1 h)), if_neg hk0]
             apply zb2
             rw [zb6, zb6, hX, hY, zb0, zb0, zb0, List.append_assoc]
             rfl
           have hs1 : ¬ (9223372036854775807 < X.size + (⟨#[46]⟩ : ByteArray).size) := by
            rw [show (⟨#[46]⟩ : ByteArray).size = 1 from rfl]; omega
           have hs2 : ¬ (9223372036854775807 < (X ++ ⟨#[46]⟩).size + Y.size) := by
            rw [ByteArray.size_append, show (⟨#[46]⟩ : ByteArray).size = 1 from rfl]; omega
           have hs3 : ¬ (9223372036854775807 < X.size + Y.size) := by omega
           clear hY hX hok2 hJ0 hJl hy1 h0 htk hPe hxz
           subst hA
           by_cases hk0 : 0 < k
           ·have hd9 : decide (0 < k) = true := jT hk0
            have hd8 : decide ((0 : Int) < (k : Int)) = true := jT (by omega)
            rw [if_neg (by omega)] at HN
            clear hk0
            go_wp2_with fail
            refine (cT _).mono ?_
            rintro e w4 ⟨rfl, hbn⟩
            replace hr : zgy w4 w.heap.size hz := Row.below hr hbn hr.lt
            replace hh9 := hh9.below' hbn hB3'
            replace hB3' := Nat.le_trans hB3' hbn.size
            replace hb := hb.trans (hbn.mono hb.size)
            clear hbn
            go_wp2
            go_roundw
            case rel => exact ⟨k + 1, hlt, by go_num, by rw [HN.out], HOK2, hh9, hB3', hr, hb⟩
            case measure => simp [intOf]; omega
           ·have hd9 : decide (0 < k) = false := jF hk0
            have hd8 : decide ((0 : Int) < (k : Int)) = false := jF (by omega)
            rw [if_pos (by omega)] at HN
            clear hk0
            go_wp2_with fail
            refine (cT _).mono ?_
            rintro e w4 ⟨rfl, hbn⟩
            replace hr : zgy w4 w.heap.size hz := Row.below hr hbn hr.lt
            replace hh9 := hh9.below' hbn hB3'
            replace hB3' := Nat.le_trans hB3' hbn.size
            replace hb := hb.trans (hbn.mono hb.size)
            clear hbn
            go_wp2
            go_roundw
            case rel => exact ⟨k + 1, hlt, by go_num, by rw [HN.out], HOK2, hh9, hB3', hr, hb⟩
            case measure => simp [intOf]; omega
          ·have e9 : (if (zhg P).1 = 0 then jN (zhg P).2 else ((zhg P).1, hv0)) = ((toA P[k]).1, hv0) := by
            have e7 := zjh (P.take k) P[k] (P.drop (k + 1)) HOK.out h0
            rw [<- hPe] at e7
            rw [e7, if_neg h0]
           have hRe := HRN.out
           rw [e9] at hRe
           obtain ⟨E1, hE1⟩ : ∃ n, n = (toA P[k]).1 := ⟨_, rfl⟩
           rw [zb0, <- hE1] at cT
           rw [<- hE1] at h0 hRe
           have HRE := jL hRe
           clear hRe
           generalize bs (toA P[k]).2 = Y at *
           generalize bs (z3k 46 (nmB (P.take k))) = X at *
           have hq : ((E1 : Int) == 0) = false := by rw [beq_eq_false_iff_ne]; omega
           have hq2 : ((E1 : Int) != 0) = true := by rw [bne, hq]; rfl
           clear hE1 h0 e9 htk hPe hxz
           subst hA
           go_wp2_with fail
           refine (cT _).mono ?_
           rintro e w4 ⟨rfl, hbn⟩
           replace hr : zgy w4 w.heap.size hz := Row.below hr hbn hr.lt
           replace hb := hb.trans (hbn.mono hb.size)
           clear hbn
           go_wp2_with (refine zee rfl rfl _ _ rfl w.heap.size (by exact rfl) hz (by exact rfl) _ hr rfl rfl (zgv _ _ _ _) ?_; intro wz hrz hgz)
           exact zg1 2 3 rfl w.heap.size rfl hz hrz rfl _ rfl rfl ⟨by rw [HRE.out]; rfl, zau hb hgz jH jH⟩
         ·obtain rfl : k = P.length := by omega
          have hall : ∀ x ∈ P, (toA x).1 = 0 := by have := HOK.out; rwa [List.take_length] at this
          have hJ0 := zjj (nmB P) (zji hall)
          have hJl : (nmB P).length <= 1025 := by unfold nmB; rw [List.length_map]; have := HP1.out; omega
          have hRe := HRN.out
          rw [zjg P hall] at hRe
          simp only [if_true] at hRe
          rw [List.take_length]
          have cM := fun W => zp4 (bs (z3k 46 (nmB P))) W (by rw [zb5]; omega)
          have hz1 : (bs (z3k 46 (nmB P))).size = (z3k 46 (nmB P)).length := zb5 _
          rw [zb0] at cM
          have hD : (hvD (z3k 46 (nmB P))).cells = hc 1 (bs (z3k 46 (nmB P))) 0 z8 := rfl
          unfold jN at hRe
          by_cases h9 : 253 < (z3k 46 (nmB P)).length
          ·rw [if_pos h9] at hRe
           have HRE := jL hRe
           clear hRe
           have hd9 : decide ((253 : Int) < ((bs (z3k 46 (nmB P))).size : Int)) = true := jT (by omega)
           generalize bs (z3k 46 (nmB P)) = X at *
           clear hJ0 hJl cM hz1 hD h9 hall HOK hk hlt
           go_wp2_with (refine zee rfl rfl _ _ rfl w.heap.size (by exact rfl) hz (by exact rfl) _ hr rfl rfl (zgv _ _ _ _) ?_; intro wz hrz hgz)
           exact zg1 2 3 rfl w.heap.size rfl hz hrz rfl _ rfl rfl ⟨by rw [HRE.out]; rfl, zau hb hgz jH jH⟩
          ·rw [if_neg h9] at hRe
           have hd9 : decide ((253 : Int) < ((bs (z3k 46 (nmB P))).size : Int)) = false := jF (by omega)
           cases hq : zqk (z3k 46 (nmB P)) with
           | true =>
             rw [hq] at cM
             rw [if_pos hq] at hRe
             have HRE := jL hRe
             clear hRe
             generalize bs (z3k 46 (nmB P)) = X at *
             clear hJ0 hJl hz1 hD h9 hall HOK hk hlt hq
             go_wp2_with fail
             refine (cM _).mono ?_
             rintro e w4 ⟨rfl, hbn⟩
             replace hr : zgy w4 w.heap.size hz := Row.below hr hbn hr.lt
             replace hb := hb.trans (hbn.mono hb.size)
             clear hbn
             go_wp2_with (refine zee rfl rfl _ _ rfl w.heap.size (by exact rfl) hz (by exact rfl) _ hr rfl rfl (zgv _ _ _ _) ?_; intro wz hrz hgz)
             exact zg1 2 3 rfl w.heap.size rfl hz hrz rfl _ rfl rfl ⟨by rw [HRE.out]; rfl, zau hb hgz jH jH⟩
           | false =>
             rw [hq] at cM
             rw [if_neg (by rw [hq]; simp)] at hRe
             have HRE : Hid (R.2.cells = hc 1 (bs (z3k 46 (nmB P))) 0 z8 /\ R.1 = 0) := jL (by rw [hRe]; exact ⟨hD, rfl⟩)
             clear hRe
             generalize bs (z3k 46 (nmB P)) = X at *
             clear hJ0 hJl hz1 hD h9 hall HOK hk hlt hq
             go_wp2_with fail
             refine (cM _).mono ?_
             rintro e w4 ⟨rfl, hbn⟩
             replace hr : zgy w4 w.heap.size hz := Row.below hr hbn hr.lt
             replace hb := hb.trans (hbn.mono hb.size)
             clear hbn
             go_wp2_with (refine zee rfl rfl _ _ rfl w.heap.size (by exact rfl) (hc 1 X 0 z8) (by exact rfl) _ hr rfl rfl (zgv _ _ _ _) ?_; intro wz hrz hgz)
             exact zg1 2 3 rfl w.heap.size rfl (hc 1 X 0 z8) hrz rfl _ rfl rfl ⟨by rw [HRE.out.1, HRE.out.2]; rfl, zau hb hgz jH jH⟩
theorem zjt (s : ByteArray) (w : World) (hs : s.size <= 100000000) : Calls Tryz.prog 61 #[.string s] w (zeh w (zhw (ls s))) := by
 by_cases h1 : 1024 < s.size
 ·exact zjq s w hs h1
 ·by_cases hh : (ls s).head? = some 91
  ·exact zjr s w hs h1 hh
  ·exact zjs s w hs h1 hh
end

end Go.Proofs.YtekaljeicfjkjaaGreatDoor
